import PyProof.Rows.All
import Wide.All
import OpenK.AllK
import Wide.FinOn
import HandS.ForMost
import HandS.ForExc
import HandS.Wide
import HandS.WideBits
import HandS.CallSlots
import HandS.ExcInit
import HandS.ExcField
import HandS.ExcIs
import HandS.IsInst
import HandS.Flow
import HandS.Style
import HandS.Zip
import HandS.Walk
import HandS.Conv
import HandS.RaiseMore
import HandS.TupAny
import HandS.TupLe
import HandS.More
import HandS.TupMul
import HandS.TryOnly
import HandS.Lambda
import HandS.Defaults
import HandS.Text
import HandS.StrMore
import PyProof.Rows.IntBool
import HandS.OwnEq
import HandS.Deep
import HandS.Star
import KE.GoesMore
import KE.GoesEnum
import HandS.RevRange
import KE.KUnpackStar
import KE.KExcIs
import HandS.Ends
import HandS.EndTab
import PySem.Challenge.RW_wordreach_k44_trees_for_terms
set_option Elab.async false
set_option linter.all false
set_option maxRecDepth 100000
namespace Wr
open PySem PySem.Spec L2
open PyProof.Rows hiding St
/-- what a written dict of the module holds: a def, texts in a tuple -/
inductive GV where
  | fn (x : Str) | tx (xs : List Str) | iv (i : Int)
  deriving DecidableEq
/-- what a written name of the module holds: an int, ints in a tuple -/
inductive GC where
  | int (i : Int) | nums (is : List Int)
  deriving DecidableEq
/-- a value as data -/
inductive D where
  | non | bl (b : Bool) | int (i : Int) | str (x : Str)
  | tup (xs : List D) | lst (xs : List D) | dct (kvs : List (Key × D))
  | fnc (x : Str)
  | kdc (kvs : List (Str × GV))
  | dtc (kvs : List (List Key × D))
  | xc (x f : Str) (d : D)
  | clo (k : Nat) (x f : Str) (d : D)
/-- what a slot holds: nothing known, a shared value, a list or dict of this slot alone, one that the caller's slot holds -/
inductive Sl where
  | no | sh (d : D) | ow (d : D) | io (d : D)
abbrev Rho := List Sl
def Sl.own : Sl → Bool
  | .ow _ => true
  | .io _ => true
  | _ => false
/-- a result: shared, or fresh (no slot holds it) -/
inductive Rs where
  | sh (d : D) | fr (d : D)
def Rs.d : Rs → D
  | .sh d => d
  | .fr d => d
/-- an exception: its class, its fields -/
structure Xn where
  cls : Str
  fs : List (Str × D)
abbrev AP1 := Addr → Prop
/-- an exception of the class at C at a, its dict at dx -/
def exh (a C dx : Addr) : HO := .ext fun h => ∃ (oe : Obj) (vs : Array Value), h.get? a = some oe ∧ oe.cls = .ref C ∧ oe.dict = some dx ∧ oe.data = .fields vs
/-- what the lambdas of a law are called -/
def lamQ : Str := "law.<locals>.<lambda>"
theorem nt_lst {xs : List V} : ∀ ps, HO.lst xs ≠ .tbl ps := fun _ z => by cases z
theorem nt_tup {xs : List V} : ∀ ps, HO.tup xs ≠ .tbl ps := fun _ z => by cases z
theorem nt_dK {xs : List (Key × V)} : ∀ ps, HO.dK xs ≠ .tbl ps := fun _ z => by cases z
theorem nt_dT {xs : List (List Key × V)} : ∀ ps, HO.dT xs ≠ .tbl ps := fun _ z => by cases z
theorem nt_xd {xs : List (Str × V)} : ∀ ps, HO.xd xs ≠ .tbl ps := fun _ z => by cases z
theorem nt_frz {o : Obj} {u : HO} : ∀ ps, HO.frz o u ≠ .tbl ps := fun _ z => by cases z
theorem nt_ext {f : Heap → Prop} : ∀ ps, HO.ext f ≠ .tbl ps := fun _ z => by cases z
theorem nt_exh {a C dx : Addr} : ∀ ps, exh a C dx ≠ .tbl ps := nt_ext
theorem nt_code {c : Addr} {q : Str} : ∀ ps, LamX.CodeO c q ≠ .tbl ps := nt_ext
/-- a list of the module's written part -/
def KLs (K : PySem.W.Frag) (a : Addr) (xs : List V) : Prop := ∃ (its : List Value) (n : Nat), K.lookup a = some { cls := .type "list", data := .seq its.toArray n } ∧ its.length ≤ sizeLine ∧ Vals xs its
def LsK (K : PySem.W.Frag) (H : Hp) (a : Addr) (xs : List V) : Prop := Rd H a (.lst xs) ∨ KLs K a xs
/-- a list object to be read: tracked and not of O -/
def LsO (K : PySem.W.Frag) (H : Hp) (O : AP1) (a : Addr) (xs : List V) : Prop := (Rd H a (.lst xs) ∧ ¬ O a) ∨ KLs K a xs
def TpO (K : PySem.W.Frag) (H : Hp) (O : AP1) (a : Addr) (xs : List V) : Prop :=
  (H a = some (.tup xs) ∧ ¬ O a) ∨
    ((∃ (o : Obj) (its : Array Value) (n : Nat), K.lookup a = some o ∧ o.cls = .type "tuple" ∧ o.data = .seq its n ∧ its.size ≤ sizeLine ∧ Vals xs its.toList) ∧ ((∃ ss : List Str, xs = ss.map V.str) ∨ ∃ is : List Int, xs = is.map V.int))
/-- a step from H, O to H', O' that may write the objects of W alone -/
structure Fr (W : AP1) (H : Hp) (O : AP1) (H' : Hp) (O' : AP1) : Prop where
  kp : ∀ b o, H b = some o → (∀ ps, o ≠ .tbl ps) → ¬ W b → H' b = some o
  tb : ∀ P, ¬ W P → LamX.TabS H P lamQ → LamX.TabS H' P lamQ
  there : ∀ b, H' b = none → H b = none
  o1 : ∀ b, O b → ¬ W b → O' b
  o2 : ∀ b, O' b → O b ∨ H b = none
/-- a closure that a def was given: its object, what holds while it may be called, what a call gives (0: d; else the exception x with its field f) -/
structure Clo where
  f : Addr
  P : Hp → AP1 → Prop
  k : Nat
  x : Str
  n : Str
  d : D
  fr : ∀ (W : AP1) (H : Hp) (O : AP1) (H1 : Hp) (O1 : AP1), Fr W H O H1 O1 → (∀ b, W b → O b) → P H O → P H1 O1
  anti : ∀ (H : Hp) (O O1 : AP1), (∀ b, O1 b → O b) → P H O → P H O1
/-- the module: its written part, its names -/
structure Gm where
  K : PySem.W.Frag
  mg : Str → Option Value
  prm : Params
  tabs : List Addr
  clo : Option Clo
  xs : List Str
/-- what the written part says of the class x at C, whose __init__ keeps one value as f -/
structure XcF (g : Gm) (x f : Str) (C : Addr) : Prop where
  inn : x ∈ g.xs
  mg : g.mg x = some (.ref C)
  cl : OexC g.K C
  fd : XfC g.K C
  no : PySem.W.findIn g.K (.ref C) f = some none
  ha : PySem.W.findIn g.K (.ref C) "__class__" = some (some (.builtin "object.__class__"))
  hn : PySem.W.specialIn g.K (.builtin "object.__class__") "__get__" = some (some (.builtin "getset_descriptor.__get__"))
  ht : PySem.W.takesIn g.K (.builtin "object.__class__") = some true
  hm : PySem.W.mroIn g.K C (.type "object") = some true
  ini : ∃ (fI : Addr) (fd : FuncData) (qual : Str) (pa : Arguments) (sc : Scope) (p1 p2 p3 p4 : Pos), PySem.W.findIn g.K (.ref C) "__init__" = some (some (.ref fI)) ∧ PySem.W.typeIn g.K (.ref fI) = some (.type "function") ∧
    FunD g.K "__init__" qual pa [.Assign [.Attribute (.Name "self" p1) f p2] (.Name f p3) p4] sc [] [] fI fd ∧ FnScope ["self", f] ["self", f] sc ∧ Binds g.K fd ["self", f] [] ∧ ((f == ("__debug__" : Str)) = false ∧ (f == ("__classdict__" : Str)) = false)
def gvD : GV → D
  | .fn x => .fnc x
  | .tx xs => .tup (xs.map .str)
  | .iv i => .int i
def gcD : GC → D
  | .int i => .int i
  | .nums is => .tup (is.map .int)
def gvAt (kvs : List (Str × GV)) (x : Str) : Option GV := (kvs.find? fun p => decide (p.1 = x)).map (·.2)
inductive KVal (g : Gm) : V → GV → Prop
  | fn {a : Addr} {x : Str} : g.mg x = some (.ref a) → KVal g (.ref a) (.fn x)
  | tx {a : Addr} {xs : List Str} : (∃ (o : Obj) (its : Array Value) (n : Nat), g.K.lookup a = some o ∧ o.cls = .type "tuple" ∧ o.data = .seq its n ∧ its.size ≤ sizeLine ∧ Vals (xs.map V.str) its.toList) → KVal g (.ref a) (.tx xs)
  | iv {i : Int} : KVal g (.int i) (.iv i)
/-- a written name's value -/
inductive GVal (g : Gm) : V → GC → Prop
  | int {i : Int} : GVal g (.int i) (.int i)
  | nums {a : Addr} {is : List Int} : (∃ (o : Obj) (its : Array Value) (n : Nat), g.K.lookup a = some o ∧ o.cls = .type "tuple" ∧ o.data = .seq its n ∧ its.size ≤ sizeLine ∧ Vals (is.map V.int) its.toList) → GVal g (.ref a) (.nums is)
/-- a written dict's key, if it is a text -/
def kNm (e : DictEntry) : Option Str := match e.key with
  | .str x _ => some x
  | _ => none
theorem kNm_eq {e : DictEntry} {x : Str} (h : kNm e = some x) : ∃ t, e.key = .str x t := by
  unfold kNm at h
  split at h
  · rename_i y t q; cases h; exact ⟨t, q⟩
  · cases h
/-- a written dict of the module -/
def KDs (g : Gm) (a : Addr) (kvs : List (Str × GV)) : Prop := ∃ (es : Array DictEntry) (n : Nat), g.K.lookup a = some ⟨.type "dict", none, .dict es n, #[]⟩ ∧ PySem.W.KeysLit g.prm es.toList ∧ (a == sysModules) = false ∧ es.toList.map kNm = (kvs.map (·.1)).map some ∧
  ∀ z, (gvAt kvs z = none → PySem.W.nsIn g.K a z = some none) ∧ ∀ d, gvAt kvs z = some d → ∃ v u, PySem.W.nsIn g.K a z = some (some u) ∧ RelV v u ∧ KVal g v d
mutual
/-- v stands for the data d in H, by objects that are not of O -/
inductive RD (g : Gm) (H : Hp) (O : AP1) : V → D → Prop where
  | non : RD g H O .non .non
  | bl (b : Bool) : RD g H O (.bl b) (.bl b)
  | int (i : Int) : RD g H O (.int i) (.int i)
  | str (x : Str) : RD g H O (.str x) (.str x)
  | tup {a : Addr} {xs : List V} {ds : List D} : TpO g.K H O a xs → RDs g H O xs ds → RD g H O (.ref a) (.tup ds)
  | lst {a : Addr} {xs : List V} {ds : List D} : LsO g.K H O a xs → RDs g H O xs ds → RD g H O (.ref a) (.lst ds)
  | dct {a : Addr} {kvs : List (Key × V)} {kds : List (Key × D)} : H a = some (.dK kvs) → ¬ O a → RDk g H O kvs kds → RD g H O (.ref a) (.dct kds)
  | fnc {a : Addr} {x : Str} : g.mg x = some (.ref a) → RD g H O (.ref a) (.fnc x)
  | kdc {a : Addr} {kvs : List (Str × GV)} : KDs g a kvs → RD g H O (.ref a) (.kdc kvs)
  | dtc {a : Addr} {kvs : List (List Key × V)} {kds : List (List Key × D)} : H a = some (.dT kvs) → ¬ O a → RDt g H O kvs kds → RD g H O (.ref a) (.dtc kds)
  | xc {a dx C : Addr} {x f : Str} {v : V} {d : D} : XcF g x f C → H a = some (exh a C dx) → ¬ O a → H dx = some (.xd [(f, v)]) → ¬ O dx → RD g H O v d → RD g H O (.ref a) (.xc x f d)
  | clo {c : Clo} : g.clo = some c → c.P H O → RD g H O (.ref c.f) (.clo c.k c.x c.n c.d)
inductive RDs (g : Gm) (H : Hp) (O : AP1) : List V → List D → Prop where
  | nil : RDs g H O [] []
  | cons {v : V} {vs : List V} {d : D} {ds : List D} : RD g H O v d → RDs g H O vs ds → RDs g H O (v :: vs) (d :: ds)
inductive RDk (g : Gm) (H : Hp) (O : AP1) : List (Key × V) → List (Key × D) → Prop where
  | nil : RDk g H O [] []
  | cons {k : Key} {v : V} {vs : List (Key × V)} {d : D} {ds : List (Key × D)} : RD g H O v d → RDk g H O vs ds → RDk g H O ((k, v) :: vs) ((k, d) :: ds)
inductive RDt (g : Gm) (H : Hp) (O : AP1) : List (List Key × V) → List (List Key × D) → Prop where
  | nil : RDt g H O [] []
  | cons {k : List Key} {v : V} {vs : List (List Key × V)} {d : D} {ds : List (List Key × D)} : RD g H O v d → RDt g H O vs ds → RDt g H O ((k, v) :: vs) ((k, d) :: ds)
end
section
variable {g : Gm} {W W' : AP1} {H H1 H2 : Hp} {O O1 O2 : AP1}
theorem Fr.keep (f : Fr W H O H1 O1) (b : Addr) (o : HO) (e : H b = some o) (n : ¬ W b) (nt : ∀ ps, o ≠ .tbl ps := by first | exact nt_lst | exact nt_tup | exact nt_dK | exact nt_dT | exact nt_xd | exact nt_frz | exact nt_exh | exact nt_code | exact nt_ext) : H1 b = some o := f.kp b o e nt n
theorem Fr.refl (W : AP1) (H : Hp) (O : AP1) : Fr W H O H O := ⟨fun _ _ e _ _ => e, fun _ _ e => e, fun _ e => e, fun _ e _ => e, fun _ e => .inl e⟩
theorem Fr.trans (p : Fr W H O H1 O1) (q : Fr W' H1 O1 H2 O2) (s : ∀ b, W' b → W b) : Fr W H O H2 O2 :=
  ⟨fun b o e t n => q.kp b o (p.kp b o e t n) t fun z => n (s b z), fun P n t => q.tb P (fun z => n (s P z)) (p.tb P n t), fun b e => p.there b (q.there b e), fun b e n => q.o1 b (p.o1 b e n) fun z => n (s b z),
    fun b e => (q.o2 b e).elim (p.o2 b) fun z => .inr (p.there b z)⟩
theorem Fr.mono (p : Fr W H O H1 O1) (s : ∀ b, W b → W' b) : Fr W' H O H1 O1 :=
  ⟨fun b o e t n => p.kp b o e t fun z => n (s b z), fun P n t => p.tb P (fun z => n (s P z)) t, p.there, fun b e n => p.o1 b e fun z => n (s b z), p.o2⟩
theorem tabs_upd {H : Hp} {a P : Addr} {o u : HO} (e : H a = some u) (nc : ∀ c q, u ≠ LamX.CodeO c q) (n : P ≠ a) (t : LamX.TabS H P lamQ) : LamX.TabS (upd H a o) P lamQ := by
  obtain ⟨ps, e1, e2, e3⟩ := t
  refine ⟨ps, by rw [upd_ne n]; exact e1, e2, fun pos cv hc => ?_⟩
  obtain ⟨c, f1, f2⟩ := e3 pos cv hc
  refine ⟨c, f1, ?_⟩
  rw [upd_ne fun z => ?_]
  · exact f2
  · rw [z, e] at f2
    exact nc _ _ (Option.some.inj f2)
/-- a new object laid -/
theorem Fr.laid {p : Addr} {o : HO} (n : H p = none) : Fr W H O (upd H p o) O := by
  refine ⟨fun b u e _ _ => ?_, fun P _ t => t.ext fun b u e => ?_, fun b e => ?_, fun _ e _ => e, fun _ e => .inl e⟩
  · rw [upd_ne (ne_of_none e n)]; exact e
  · rw [upd_ne (ne_of_none e n)]; exact e
  · by_cases z : b = p
    · subst z; rw [upd_same] at e; cases e
    · rw [upd_ne z] at e; exact e
/-- .. and taken into O -/
theorem Fr.laidO {p : Addr} {o : HO} (n : H p = none) : Fr W H O (upd H p o) (fun b => O b ∨ b = p) := by
  have q : Fr W H O (upd H p o) O := Fr.laid n
  exact ⟨q.kp, q.tb, q.there, fun b e _ => .inl e, fun b e => e.elim .inl fun z => .inr (by rw [z]; exact n)⟩
theorem Rd.some_of {a : Addr} {u : HO} (r : Rd H a u) : ∃ o, H a = some o := by
  rcases r with r | ⟨o, r⟩
  · exact ⟨_, r⟩
  · exact ⟨_, r⟩
theorem Fr.rd {a : Addr} {u : HO} (f : Fr W H O H1 O1) (hw : ¬ W a) (r : Rd H a u) (nt : ∀ ps, u ≠ .tbl ps) : Rd H1 a u := by
  rcases r with r | ⟨o, r⟩
  · exact .inl (f.kp _ _ r nt hw)
  · exact .inr ⟨o, f.keep _ _ r hw⟩
theorem Fr.no {a : Addr} {u : HO} (f : Fr W H O H1 O1) (r : Rd H a u) (n : ¬ O a) : ¬ O1 a := fun z => by
  obtain ⟨o, e⟩ := Rd.some_of r
  rcases f.o2 a z with q | q
  · exact n q
  · rw [e] at q; cases q
theorem LsO.fr {K : PySem.W.Frag} {a : Addr} {xs : List V} (f : Fr W H O H1 O1) (hW : ∀ b, W b → O b) (h : LsO K H O a xs) : LsO K H1 O1 a xs := by
  rcases h with ⟨r, n⟩ | h
  · exact .inl ⟨f.rd (fun z => n (hW _ z)) r nt_lst, f.no r n⟩
  · exact .inr h
theorem TpO.fr {K : PySem.W.Frag} {a : Addr} {xs : List V} (f : Fr W H O H1 O1) (hW : ∀ b, W b → O b) (h : TpO K H O a xs) : TpO K H1 O1 a xs := by
  rcases h with ⟨r, n⟩ | h
  · exact .inl ⟨f.keep _ _ r (fun z => n (hW _ z)), f.no (.inl r) n⟩
  · exact .inr h
mutual
theorem RD.fr (f : Fr W H O H1 O1) (hW : ∀ b, W b → O b) : ∀ {v : V} {d : D}, RD g H O v d → RD g H1 O1 v d
  | _, _, .non => .non
  | _, _, .bl b => .bl b
  | _, _, .int i => .int i
  | _, _, .str x => .str x
  | _, _, .tup h hs => .tup (h.fr f hW) (RDs.fr f hW hs)
  | _, _, .lst h hs => .lst (h.fr f hW) (RDs.fr f hW hs)
  | _, _, .dct e n hs => .dct (f.keep _ _ e fun z => n (hW _ z)) (f.no (.inl e) n) (RDk.fr f hW hs)
  | _, _, .fnc h => .fnc h
  | _, _, .kdc h => .kdc h
  | _, _, .dtc e n hs => .dtc (f.keep _ _ e fun z => n (hW _ z)) (f.no (.inl e) n) (RDt.fr f hW hs)
  | _, _, .xc m e n e2 n2 h => .xc m (f.keep _ _ e fun z => n (hW _ z)) (f.no (.inl e) n) (f.keep _ _ e2 fun z => n2 (hW _ z)) (f.no (.inl e2) n2) (RD.fr f hW h)
  | _, _, .clo m h => .clo m (Clo.fr _ _ _ _ _ _ f hW h)
theorem RDs.fr (f : Fr W H O H1 O1) (hW : ∀ b, W b → O b) : ∀ {vs : List V} {ds : List D}, RDs g H O vs ds → RDs g H1 O1 vs ds
  | _, _, .nil => .nil
  | _, _, .cons h hs => .cons (RD.fr f hW h) (RDs.fr f hW hs)
theorem RDk.fr (f : Fr W H O H1 O1) (hW : ∀ b, W b → O b) : ∀ {vs : List (Key × V)} {ds : List (Key × D)}, RDk g H O vs ds → RDk g H1 O1 vs ds
  | _, _, .nil => .nil
  | _, _, .cons h hs => .cons (RD.fr f hW h) (RDk.fr f hW hs)
theorem RDt.fr (f : Fr W H O H1 O1) (hW : ∀ b, W b → O b) : ∀ {vs : List (List Key × V)} {ds : List (List Key × D)}, RDt g H O vs ds → RDt g H1 O1 vs ds
  | _, _, .nil => .nil
  | _, _, .cons h hs => .cons (RD.fr f hW h) (RDt.fr f hW hs)
end
/-- fewer objects are kept apart -/
theorem LsO.anti {K : PySem.W.Frag} {a : Addr} {xs : List V} (s : ∀ b, O1 b → O b) (h : LsO K H O a xs) : LsO K H O1 a xs := h.imp (fun ⟨r, n⟩ => ⟨r, fun z => n (s _ z)⟩) id
theorem TpO.anti {K : PySem.W.Frag} {a : Addr} {xs : List V} (s : ∀ b, O1 b → O b) (h : TpO K H O a xs) : TpO K H O1 a xs := h.imp (fun ⟨r, n⟩ => ⟨r, fun z => n (s _ z)⟩) id
mutual
theorem RD.anti (s : ∀ b, O1 b → O b) : ∀ {v : V} {d : D}, RD g H O v d → RD g H O1 v d
  | _, _, .non => .non
  | _, _, .bl b => .bl b
  | _, _, .int i => .int i
  | _, _, .str x => .str x
  | _, _, .tup h hs => .tup (h.anti s) (RDs.anti s hs)
  | _, _, .lst h hs => .lst (h.anti s) (RDs.anti s hs)
  | _, _, .dct e n hs => .dct e (fun z => n (s _ z)) (RDk.anti s hs)
  | _, _, .fnc h => .fnc h
  | _, _, .kdc h => .kdc h
  | _, _, .dtc e n hs => .dtc e (fun z => n (s _ z)) (RDt.anti s hs)
  | _, _, .xc m e n e2 n2 h => .xc m e (fun z => n (s _ z)) e2 (fun z => n2 (s _ z)) (RD.anti s h)
  | _, _, .clo m h => .clo m (Clo.anti _ _ _ _ s h)
theorem RDs.anti (s : ∀ b, O1 b → O b) : ∀ {vs : List V} {ds : List D}, RDs g H O vs ds → RDs g H O1 vs ds
  | _, _, .nil => .nil
  | _, _, .cons h hs => .cons (RD.anti s h) (RDs.anti s hs)
theorem RDk.anti (s : ∀ b, O1 b → O b) : ∀ {vs : List (Key × V)} {ds : List (Key × D)}, RDk g H O vs ds → RDk g H O1 vs ds
  | _, _, .nil => .nil
  | _, _, .cons h hs => .cons (RD.anti s h) (RDk.anti s hs)
theorem RDt.anti (s : ∀ b, O1 b → O b) : ∀ {vs : List (List Key × V)} {ds : List (List Key × D)}, RDt g H O vs ds → RDt g H O1 vs ds
  | _, _, .nil => .nil
  | _, _, .cons h hs => .cons (RD.anti s h) (RDt.anti s hs)
end
theorem RDs.len : ∀ {vs : List V} {ds : List D}, RDs g H O vs ds → vs.length = ds.length
  | _, _, .nil => rfl
  | _, _, .cons _ hs => by rw [List.length_cons, List.length_cons, RDs.len hs]
theorem RDs.get : ∀ {vs : List V} {ds : List D} {i : Nat} {d : D}, RDs g H O vs ds → ds[i]? = some d → ∃ v, vs[i]? = some v ∧ RD g H O v d
  | _, _, _, _, .nil, e => by simp at e
  | _, _, 0, _, .cons h _, e => by simp at e; subst e; exact ⟨_, by simp, h⟩
  | _, _, i + 1, d, .cons _ hs, e => by
    obtain ⟨v, e1, h⟩ := RDs.get (i := i) (d := d) hs (by simpa using e)
    exact ⟨v, by simpa using e1, h⟩
theorem RDs.getV : ∀ {vs : List V} {ds : List D} {i : Nat} {v : V}, RDs g H O vs ds → vs[i]? = some v → ∃ d, ds[i]? = some d ∧ RD g H O v d
  | _, _, _, _, .nil, e => by simp at e
  | _, _, 0, _, .cons h _, e => by simp at e; subst e; exact ⟨_, by simp, h⟩
  | _, _, i + 1, v, .cons _ hs, e => by
    obtain ⟨d, e1, h⟩ := RDs.getV (i := i) (v := v) hs (by simpa using e)
    exact ⟨d, by simpa using e1, h⟩
theorem RDs.append : ∀ {vs ws : List V} {ds es : List D}, RDs g H O vs ds → RDs g H O ws es → RDs g H O (vs ++ ws) (ds ++ es)
  | _, _, _, _, .nil, q => q
  | _, _, _, _, .cons h hs, q => .cons h (RDs.append hs q)
theorem RDs.take : ∀ {vs : List V} {ds : List D} (n : Nat), RDs g H O vs ds → RDs g H O (vs.take n) (ds.take n)
  | _, _, 0, _ => .nil
  | _, _, _ + 1, .nil => .nil
  | _, _, n + 1, .cons h hs => .cons h (RDs.take n hs)
theorem RDs.drop : ∀ {vs : List V} {ds : List D} (n : Nat), RDs g H O vs ds → RDs g H O (vs.drop n) (ds.drop n)
  | _, _, 0, r => r
  | _, _, _ + 1, .nil => .nil
  | _, _, n + 1, .cons _ hs => RDs.drop n hs
theorem RDs.set : ∀ {vs : List V} {ds : List D} {v : V} {d : D} (i : Nat), RDs g H O vs ds → RD g H O v d → RDs g H O (vs.set i v) (ds.set i d)
  | _, _, _, _, _, .nil, _ => .nil
  | _, _, _, _, 0, .cons _ hs, q => .cons q hs
  | _, _, _, _, i + 1, .cons h hs, q => .cons h (RDs.set i hs q)
theorem RDs.rep {vs : List V} {ds : List D} (h : RDs g H O vs ds) : ∀ k : Nat, RDs g H O (List.replicate k vs).flatten (List.replicate k ds).flatten
  | 0 => .nil
  | k + 1 => by rw [List.replicate_succ, List.replicate_succ, List.flatten_cons, List.flatten_cons]; exact RDs.append h (RDs.rep h k)
theorem RDs.ints : ∀ (ns : List Int), RDs g H O (ns.map V.int) (ns.map D.int)
  | [] => .nil
  | n :: r => .cons (.int n) (RDs.ints r)
theorem RDs.strs : ∀ (ns : List Str), RDs g H O (ns.map V.str) (ns.map D.str)
  | [] => .nil
  | n :: r => .cons (.str n) (RDs.strs r)
theorem KVal.rd {v : V} {d : GV} (h : KVal g v d) : RD g H O v (gvD d) := by
  cases h with
  | fn h => exact .fnc h
  | tx h => exact .tup (.inr ⟨h, .inl ⟨_, rfl⟩⟩) (RDs.strs _)
  | iv => exact .int _
theorem GVal.rd {v : V} {d : GC} (h : GVal g v d) : RD g H O v (gcD d) := by
  cases h with
  | int => exact .int _
  | nums h => exact .tup (.inr ⟨h, .inr ⟨_, rfl⟩⟩) (RDs.ints _)
/-- v may be read as d: the object at the top may be of O -/
inductive RB (g : Gm) (H : Hp) (O : AP1) : V → D → Prop where
  | sh {v : V} {d : D} : RD g H O v d → RB g H O v d
  | lst {a : Addr} {xs : List V} {ds : List D} : H a = some (.lst xs) → RDs g H O xs ds → RB g H O (.ref a) (.lst ds)
  | dct {a : Addr} {kvs : List (Key × V)} {kds : List (Key × D)} : H a = some (.dK kvs) → RDk g H O kvs kds → RB g H O (.ref a) (.dct kds)
  | dtc {a : Addr} {kvs : List (List Key × V)} {kds : List (List Key × D)} : H a = some (.dT kvs) → RDt g H O kvs kds → RB g H O (.ref a) (.dtc kds)
theorem KLs.sq {K : PySem.W.Frag} {a : Addr} {xs : List V} (h : KLs K a xs) : SqL K H a xs := by
  obtain ⟨its, n, e, z, r⟩ := h
  exact .inr ⟨_, its.toArray, n, e, rfl, rfl, rfl, by rw [List.size_toArray]; exact z, r⟩
theorem LsK.sq {K : PySem.W.Frag} {a : Addr} {xs : List V} (h : LsK K H a xs) : SqL K H a xs := h.elim .inl KLs.sq
theorem LsO.k {K : PySem.W.Frag} {a : Addr} {xs : List V} (h : LsO K H O a xs) : LsK K H a xs := h.imp (·.1) id
theorem LsO.sq {K : PySem.W.Frag} {a : Addr} {xs : List V} (h : LsO K H O a xs) : SqL K H a xs := h.k.sq
theorem TpO.sq {K : PySem.W.Frag} {a : Addr} {xs : List V} (h : TpO K H O a xs) : SqT K H a xs := h.imp (fun h => .inl h.1) (·.1)
theorem RB.getL {v : V} {ds : List D} (h : RB g H O v (.lst ds)) : ∃ a xs, v = .ref a ∧ LsK g.K H a xs ∧ RDs g H O xs ds := by
  cases h with
  | sh h => cases h with | lst h hs => exact ⟨_, _, rfl, h.k, hs⟩
  | lst e hs => exact ⟨_, _, rfl, .inl (.inl e), hs⟩
theorem RB.tupSh {v : V} {ds : List D} (h : RB g H O v (.tup ds)) : RD g H O v (.tup ds) := by cases h with | sh h => exact h
theorem RB.getT {v : V} {ds : List D} (h : RB g H O v (.tup ds)) : ∃ a xs, v = .ref a ∧ SqT g.K H a xs ∧ RDs g H O xs ds := by
  cases h with
  | sh h => cases h with | tup h hs => exact ⟨_, _, rfl, h.sq, hs⟩
theorem RB.getD {v : V} {ds : List (Key × D)} (h : RB g H O v (.dct ds)) : ∃ a xs, v = .ref a ∧ H a = some (.dK xs) ∧ RDk g H O xs ds := by
  cases h with
  | sh h => cases h with | dct h n hs => exact ⟨_, _, rfl, h, hs⟩
  | dct e hs => exact ⟨_, _, rfl, e, hs⟩
theorem RB.getDt {v : V} {ds : List (List Key × D)} (h : RB g H O v (.dtc ds)) : ∃ a xs, v = .ref a ∧ H a = some (.dT xs) ∧ RDt g H O xs ds := by
  cases h with
  | sh h => cases h with | dtc h n hs => exact ⟨_, _, rfl, h, hs⟩
  | dtc e hs => exact ⟨_, _, rfl, e, hs⟩
theorem RB.getK {v : V} {kvs : List (Str × GV)} (h : RB g H O v (.kdc kvs)) : ∃ a, v = .ref a ∧ KDs g a kvs := by
  cases h with
  | sh h => cases h with | kdc h => exact ⟨_, rfl, h⟩
theorem RB.getI {v : V} {i : Int} (h : RB g H O v (.int i)) : v = .int i := by cases h with | sh h => cases h; rfl
theorem RB.getB {v : V} {b : Bool} (h : RB g H O v (.bl b)) : v = .bl b := by cases h with | sh h => cases h; rfl
theorem RB.getS {v : V} {x : Str} (h : RB g H O v (.str x)) : v = .str x := by cases h with | sh h => cases h; rfl
theorem RB.getN {v : V} (h : RB g H O v .non) : v = .non := by cases h with | sh h => cases h; rfl
end
mutual
def toPy : D → Option PyData
  | .non => some .none
  | .bl b => some (.bool b)
  | .int i => some (.int i)
  | .str x => some (.str x)
  | .tup xs => (toPys xs).map .tuple
  | .lst xs => (toPys xs).map .list
  | .dct _ => none
  | .fnc _ => none
  | .kdc _ => none
  | .dtc _ => none
  | .xc _ _ _ => none
  | .clo _ _ _ _ => none
def toPys : List D → Option (List PyData)
  | [] => some []
  | x :: xs => match toPy x, toPys xs with
    | some p, some ps => some (p :: ps)
    | _, _ => none
end
section
variable {g : Gm} {H : Hp} {O : AP1}
mutual
theorem RD.dp : ∀ {d : D} {v : V} {p : PyData}, RD g H O v d → toPy d = some p → Dp g.K H v p
  | .non, _, _, h, e => by cases h; simp only [toPy, Option.some.injEq] at e; subst e; exact .non
  | .bl b, _, _, h, e => by cases h; simp only [toPy, Option.some.injEq] at e; subst e; exact .bl b
  | .int i, _, _, h, e => by cases h; simp only [toPy, Option.some.injEq] at e; subst e; exact .int i
  | .str x, _, _, h, e => by cases h; simp only [toPy, Option.some.injEq] at e; subst e; exact .str x
  | .tup ds, _, _, h, e => by
    cases h with
    | tup h hs =>
      simp only [toPy, Option.map_eq_some_iff] at e
      obtain ⟨ps, e1, rfl⟩ := e
      exact .tup h.sq (RDs.dp hs e1)
  | .lst ds, _, _, h, e => by
    cases h with
    | lst h hs =>
      simp only [toPy, Option.map_eq_some_iff] at e
      obtain ⟨ps, e1, rfl⟩ := e
      exact .lst h.sq (RDs.dp hs e1)
  | .dct _, _, _, _, e => by simp only [toPy, reduceCtorEq] at e
  | .fnc _, _, _, _, e => by simp only [toPy, reduceCtorEq] at e
  | .kdc _, _, _, _, e => by simp only [toPy, reduceCtorEq] at e
  | .dtc _, _, _, _, e => by simp only [toPy, reduceCtorEq] at e
  | .xc _ _ _, _, _, _, e => by simp only [toPy, reduceCtorEq] at e
  | .clo _ _ _ _, _, _, _, e => by simp only [toPy, reduceCtorEq] at e
theorem RDs.dp : ∀ {ds : List D} {vs : List V} {ps : List PyData}, RDs g H O vs ds → toPys ds = some ps → DpAll g.K H vs ps
  | [], _, _, h, e => by cases h; simp only [toPys, Option.some.injEq] at e; subst e; exact .nil
  | d :: ds, _, _, h, e => by
    cases h with
    | cons h hs =>
      unfold toPys at e
      split at e
      · rename_i p ps e1 e2
        simp only [Option.some.injEq] at e
        subst e
        exact .cons (RD.dp h e1) (RDs.dp hs e2)
      · cases e
end
theorem RB.dp {d : D} {v : V} {p : PyData} (h : RB g H O v d) (e : toPy d = some p) : Dp g.K H v p := by
  cases h with
  | sh h => exact h.dp e
  | lst h hs =>
    simp only [toPy, Option.map_eq_some_iff] at e
    obtain ⟨ps, e1, rfl⟩ := e
    exact .lst (.of h) (hs.dp e1)
  | dct _ _ => simp only [toPy, reduceCtorEq] at e
  | dtc _ _ => simp only [toPy, reduceCtorEq] at e
end
/-- the object at a is this slot's own and holds d -/
inductive Ob (g : Gm) (H : Hp) (O : AP1) (a : Addr) : D → Prop where
  | lst {xs : List V} {ds : List D} : H a = some (.lst xs) → RDs g H O xs ds → Ob g H O a (.lst ds)
  | dct {xs : List (Key × V)} {ds : List (Key × D)} : H a = some (.dK xs) → RDk g H O xs ds → Ob g H O a (.dct ds)
  | dtc {xs : List (List Key × V)} {ds : List (List Key × D)} : H a = some (.dT xs) → RDt g H O xs ds → Ob g H O a (.dtc ds)
inductive SlR (g : Gm) (H : Hp) (O : AP1) : Option V → Sl → Prop where
  | no {v : Option V} : SlR g H O v .no
  | sh {v : V} {d : D} : RD g H O v d → SlR g H O (some v) (.sh d)
  | ow {a : Addr} {d : D} : O a → Ob g H O a d → SlR g H O (some (.ref a)) (.ow d)
  | io {a : Addr} {d : D} : O a → Ob g H O a d → SlR g H O (some (.ref a)) (.io d)
/-- the objects that slots hold alone -/
def Wn (σ : St) (ρ : Rho) : AP1 := fun a => ∃ (i : Nat) (s : Sl), ρ[i]? = some s ∧ s.own = true ∧ σ[i]? = some (some (.ref a))
/-- the code tables that lambdas go to -/
def TbO (g : Gm) (H : Hp) (O : AP1) : Prop := ∀ P ∈ g.tabs, LamX.TabS H P lamQ ∧ ¬ O P
theorem TbO.fr {g : Gm} {W : AP1} {H H1 : Hp} {O O1 : AP1} (t : TbO g H O) (f : Fr W H O H1 O1) (hW : ∀ b, W b → O b) : TbO g H1 O1 := fun P hP => by
  obtain ⟨h, n⟩ := t P hP
  refine ⟨f.tb P (fun z => n (hW P z)) h, fun z => ?_⟩
  obtain ⟨ps, e, _⟩ := h
  rcases f.o2 P z with q | q
  · exact n q
  · rw [e] at q; cases q
theorem TbO.anti {g : Gm} {H : Hp} {O O1 : AP1} (t : TbO g H O) (s : ∀ b, O1 b → O b) : TbO g H O1 := fun P hP => ⟨(t P hP).1, fun z => (t P hP).2 (s P z)⟩
structure StR (g : Gm) (H : Hp) (O : AP1) (σ : St) (ρ : Rho) : Prop where
  len : σ.length = ρ.length
  at_ : ∀ (i : Nat) (v : Option V) (s : Sl), σ[i]? = some v → ρ[i]? = some s → SlR g H O v s
  one : ∀ (i j : Nat) (s t : Sl) (a : Addr), ρ[i]? = some s → s.own = true → ρ[j]? = some t → t.own = true → σ[i]? = some (some (.ref a)) → σ[j]? = some (some (.ref a)) → i = j
  obj : ∀ b, O b → H b ≠ none
  tabs : TbO g H O
theorem Ob.rb {g : Gm} {H : Hp} {O : AP1} {a : Addr} {d : D} (h : Ob g H O a d) : RB g H O (.ref a) d := by
  cases h with
  | lst e hs => exact .lst e hs
  | dct e hs => exact .dct e hs
  | dtc e hs => exact .dtc e hs
theorem Ob.fr {g : Gm} {W : AP1} {H H1 : Hp} {O O1 : AP1} {a : Addr} {d : D} (f : Fr W H O H1 O1) (hW : ∀ b, W b → O b) (n : ¬ W a) (h : Ob g H O a d) : Ob g H1 O1 a d := by
  cases h with
  | lst e hs => exact .lst (f.keep _ _ e n) (hs.fr f hW)
  | dct e hs => exact .dct (f.keep _ _ e n) (hs.fr f hW)
  | dtc e hs => exact .dtc (f.keep _ _ e n) (hs.fr f hW)
theorem Ob.anti {g : Gm} {H : Hp} {O O1 : AP1} {a : Addr} {d : D} (s : ∀ b, O1 b → O b) (h : Ob g H O a d) : Ob g H O1 a d := by
  cases h with
  | lst e hs => exact .lst e (hs.anti s)
  | dct e hs => exact .dct e (hs.anti s)
  | dtc e hs => exact .dtc e (hs.anti s)
theorem Ob.sh {g : Gm} {H : Hp} {O : AP1} {a : Addr} {d : D} (n : ¬ O a) (h : Ob g H O a d) : RD g H O (.ref a) d := by
  cases h with
  | lst e hs => exact .lst (.inl ⟨.inl e, n⟩) hs
  | dct e hs => exact .dct e n hs
  | dtc e hs => exact .dtc e n hs
section
variable {g : Gm} {H H1 : Hp} {O O1 : AP1} {σ : St} {ρ : Rho} {W : AP1}
theorem StR.wn (S : StR g H O σ ρ) : ∀ b, Wn σ ρ b → O b := fun b ⟨i, s, e1, o, e2⟩ => by
  have h := S.at_ i _ s e2 e1
  cases h with
  | no => simp [Sl.own] at o
  | sh _ => simp [Sl.own] at o
  | ow a _ => exact a
  | io a _ => exact a
/-- behind a step that leaves the slots' own objects as they are -/
theorem StR.fr0 (S : StR g H O σ ρ) (f : Fr W H O H1 O1) (hW : ∀ b, W b → O b) (n : ∀ b, W b → ¬ Wn σ ρ b) (ob : ∀ b, O1 b → H1 b ≠ none) : StR g H1 O1 σ ρ :=
  ⟨S.len, fun i v s e1 e2 => by
    have h := S.at_ i v s e1 e2
    cases h with
    | no => exact .no
    | sh r => exact .sh (r.fr f hW)
    | ow o b =>
      have nw : ¬ W _ := fun z => n _ z ⟨i, _, e2, rfl, e1⟩
      exact .ow (f.o1 _ o nw) (b.fr f hW nw)
    | io o b =>
      have nw : ¬ W _ := fun z => n _ z ⟨i, _, e2, rfl, e1⟩
      exact .io (f.o1 _ o nw) (b.fr f hW nw), S.one, ob, S.tabs.fr f hW⟩
theorem StR.fr1 (S : StR g H O σ ρ) (f : Fr (fun _ => False) H O H1 O1) (ob : ∀ b, O1 b → H1 b ≠ none) : StR g H1 O1 σ ρ :=
  S.fr0 f (fun _ z => z.elim) (fun _ z => z.elim) ob
theorem StR.laid {p : Addr} {o : HO} (S : StR g H O σ ρ) (n : H p = none) : StR g (upd H p o) O σ ρ :=
  S.fr1 (Fr.laid n) fun b z e => S.obj b z ((Fr.laid (W := fun _ => False) (O := O) n).there b e)
theorem StR.laidO {p : Addr} {o : HO} (S : StR g H O σ ρ) (n : H p = none) : StR g (upd H p o) (fun b => O b ∨ b = p) σ ρ :=
  S.fr1 (Fr.laidO n) fun b z e => by
    rcases z with z | z
    · exact S.obj b z ((Fr.laidO (W := fun _ => False) (O := O) n).there b e)
    · rw [z, upd_same] at e; cases e
theorem StR.anti (S : StR g H O σ ρ) (s : ∀ b, O1 b → O b) (k : ∀ b, Wn σ ρ b → O1 b) : StR g H O1 σ ρ :=
  ⟨S.len, fun i v t e1 e2 => by
    have h := S.at_ i v t e1 e2
    cases h with
    | no => exact .no
    | sh r => exact .sh (r.anti s)
    | ow o b => exact .ow (k _ ⟨i, _, e2, rfl, e1⟩) (b.anti s)
    | io o b => exact .io (k _ ⟨i, _, e2, rfl, e1⟩) (b.anti s), S.one, fun b z => S.obj b (s b z), S.tabs.anti s⟩
theorem StR.get {i : Nat} {s : Sl} (S : StR g H O σ ρ) (e : ρ[i]? = some s) : ∃ v, σ[i]? = some v ∧ SlR g H O v s := by
  have hi : i < σ.length := by rw [S.len]; exact (List.getElem?_eq_some_iff.mp e).1
  exact ⟨σ[i], by simp [hi], S.at_ i _ s (by simp [hi]) e⟩
end
end Wr
namespace Wr
open PySem L2
/-- a built-in function -/
inductive Bi where
  | len | abs | min2 | max2 | int1 | str1 | repr | sum | maxL | minL | all | any | sorted | listOf | tupleOf | dictOf
  deriving DecidableEq
def Bi.nm : Bi → String
  | .len => "len" | .abs => "abs" | .min2 => "min" | .max2 => "max" | .int1 => "int" | .str1 => "str" | .repr => "repr" | .sum => "sum" | .maxL => "max" | .minL => "min"
  | .all => "all" | .any => "any" | .sorted => "sorted" | .listOf => "list" | .tupleOf => "tuple" | .dictOf => "dict"
/-- a class that isinstance is asked about -/
inductive Ty where
  | int | bl | str | tup | lst | dct
  deriving DecidableEq
def Ty.nm : Ty → String
  | .int => "int" | .bl => "bool" | .str => "str" | .tup => "tuple" | .lst => "list" | .dct => "dict"
/-- a method of a text, without arguments -/
inductive Tm where
  | up | dig | asc
  deriving DecidableEq
def Tm.nm : Tm → String
  | .up => "upper" | .dig => "isdigit" | .asc => "isascii"
/-- a target: a name, or names in a tuple -/
inductive CT where
  | nm (i : Nat) | tp (is : List Nat)
def CT.ix : CT → List Nat
  | .nm i => [i]
  | .tp is => is
mutual
inductive CE where
  | var (i : Nat) | int (i : Int) | bl (b : Bool) | non | str (x : Str) | fnc (x : Str)
  | bin (op : Operator) (a b : CE) | neg (a : CE) | inv (a : CE)
  | cmp (op : CmpOp) (a b : CE) | chn (o p : CmpOp) (a b c : CE)
  | bop (isAnd : Bool) (es : CEs) | nt (a : CE) | ite (c a b : CE)
  | tup (es : CEs) | lst (es : CEs) | tupS (es : CEs) (e : CE) | lstS (e : CE) (es : CEs) | jn (a b : CE) | lnS (a : CE) | srS (a : CE) | srC (tg : CT) (it : CI) (e : CE) | callF (f : Str) (e : CE)
  | dct (ks : List Str) (es : CEs) | dctT
  | gd (x : Str) (kvs : List (Str × GV)) | gc (x : Str) (c : GC) | spl (a b : CE) | ptn (a b : CE) | m0 (m : Tm) (a : CE)
  | popL (i : Nat) | ix (a i : CE) | sl (a : CE) (lo hi : CO) | sls (a : CE) (lo hi : CO) (st : CE)
  | bi (f : Bi) (es : CEs)
  | isi (t : Ty) (a : CE)
  | hole (i : Nat) | tell (t : Str) (e : CE) | isx (tp : Bool) (xs : List Str) (a : CE) | cnt (a b : CE) | idx (a b : CE) | att (f : Str) (a : CE)
  | rngL (es : CEs) | rngT (es : CEs)
  | call (f : Str) (as : CAs) | callK (f : Str) (n : Nat) (as : CAs) (ks : List Str) (es : CEs) (pm : List Nat) | call0 (f : Str) | callV (i : Nat) (fs : List Str) (as : CAs)
  | dget (a k d : CE)
  | lc2 (tg : CT) (it : CI) (tg1 : CT) (it1 : CI) (e : CE)
  | lc (tg : CT) (it : CI) (ifs : CEs) (e : CE)
inductive CO where
  | none | some (e : CE)
inductive CEs where
  | nil | cons (e : CE) (es : CEs)
inductive CAs where
  | nil | ex (e : CE) (as : CAs) | io (j : Nat) (as : CAs)
inductive CI where
  | ex (e : CE) | rng (es : CEs) | enu (e : CE) | zip (a b : CE) | rrng (es : CEs) | rng3 (es : CEs) | sgn (e : CE)
end
/-- what stands in a try -/
inductive TB where
  | ret | exp | asg (k : Nat)
mutual
inductive CS where
  | rse (x f : Str) (e : CE) | tryx (m : TB) (e : CE) (i j : Nat) (r : Str) | tryc (m : TB) (e : CE) (i j : Nat) (r : Str)
  | asg (i : Nat) (e : CE)
  | asgT (is : List Nat) (e : CE) | asgL (is : List Nat) (e : CE)
  | par (is : List Nat) (es : CEs)
  | asgS (is : List Nat) (j : Nat) (e : CE)
  | aug (i : Nat) (e : CE)
  | seti (i : Nat) (k e : CE) | setd (i : Nat) (k e : CE)
  | app (i : Nat) (e : CE)
  | ext (i : Nat) (e : CE)
  | exp (e : CE)
  | ifs (c : CE) (a b : CSs)
  | fors (tg : CT) (it : CI) (body : CSs)
  | whl (fuel : Nat) (c : CE) (body : CSs)
  | ret (e : CE) | retN | pass | brk | cnt
  | nev
inductive CSs where
  | nil | cons (s : CS) (ss : CSs)
end
/-- a def: its parameters' number, its slots' number, its body -/
structure CDef where
  np : Nat
  ns : Nat
  body : CSs
noncomputable section
/-- a condition as a truth value, never evaluated -/
def okB (p : Prop) : Bool := @decide p (Classical.propDecidable p)
theorem okB_of {p : Prop} (h : p) : okB p = true := @decide_eq_true p (Classical.propDecidable p) h
theorem of_okB {p : Prop} (h : okB p = true) : p := @of_decide_eq_true p (Classical.propDecidable p) h
/-- how conditions on sizes are answered: never by evaluation, or by it (for a run of written data) -/
class Oks where
  ok : (p : Prop) → [Decidable p] → Bool
variable [Oks]
def tyD : D → Option String
  | .non => some "NoneType"
  | .bl _ => some "bool"
  | .int _ => some "int"
  | .str _ => some "str"
  | .tup _ => some "tuple"
  | .lst _ => some "list"
  | .dct _ => some "dict"
  | .fnc _ => none
  | .kdc _ => none
  | .dtc _ => none
  | .xc _ _ _ => none
  | .clo _ _ _ _ => none
def isiS (t : Ty) (a : String) : Bool := a == t.nm || (a == "bool" && t.nm == "int")
def isiD (t : Ty) (d : D) : Option Bool := (tyD d).map (isiS t)
/-- isinstance of an exception: all derive from ReachError alone -/
def isxD (xs : List Str) : D → Option Bool
  | .xc x _ _ => some (xs.any fun c => decide (c = x) || decide (c = ("ReachError" : Str)) || decide (c = ("ValueError" : Str)))
  | _ => none
def attD (f : Str) : D → Option D
  | .xc _ f' d => if f' = f then some d else none
  | _ => none
/-- how many items are equal to d -/
def cntD : D → D → Option Rs
  | .lst xs, d => match toPys xs, toPy d with
    | some ps, some p => if SeqAt.shaped (.list ps) = true ∧ SeqAt.shaped p = true then some (.sh (.int (ps.countP fun z => PyData.eqv z p : Nat))) else none
    | _, _ => none
  | _, _ => none
/-- where the first one equal to d is -/
def idxD : D → D → Option Rs
  | .lst xs, d => match toPys xs, toPy d with
    | some ps, some p => if SeqAt.shaped (.list ps) = true ∧ SeqAt.shaped p = true then (match ps.findIdx? fun z => PyData.eqv z p with
      | some j => some (.sh (.int (j : Nat)))
      | none => none) else none
    | _, _ => none
  | _, _ => none
def sizeL : Nat := 16777216
def mulOk (a b : Int) : Bool := Oks.ok (a.natAbs.log2 + b.natAbs.log2 < 1000000)
def fdOk (b : Int) : Bool := Oks.ok (0 < b ∧ b.natAbs.log2 < 9000)
def powOk (a b : Int) : Bool := Oks.ok (2 ≤ a ∧ 0 ≤ b ∧ b ≤ 1000 ∧ a.natAbs.log2 < 10000)
def shlOk (a b : Int) : Bool := Oks.ok (0 ≤ b ∧ a.natAbs.log2 < 1000000 ∧ b ≤ 1000000)
def binop : Operator → D → D → Option Rs
  | .Add, .int a, .int b => some (.sh (.int (a + b)))
  | .Sub, .int a, .int b => some (.sh (.int (a - b)))
  | .Mult, .int a, .int b => if mulOk a b = true then some (.sh (.int (a * b))) else none
  | .FloorDiv, .int a, .int b => if fdOk b = true then some (.sh (.int (a / b))) else none
  | .Mod, .int a, .int b => if 0 < b then some (.sh (.int (a % b))) else none
  | .Pow, .int a, .int b => if powOk a b = true then some (.sh (.int (a ^ b.toNat))) else none
  | .LShift, .int a, .int b => if shlOk a b = true then some (.sh (.int (a * 2 ^ b.toNat))) else none
  | .RShift, .int a, .int b => if 0 ≤ b then some (.sh (.int (a / 2 ^ b.toNat))) else none
  | .BitAnd, .int a, .int b => some (.sh (.int (Builtin.bitAnd a b)))
  | .BitOr, .int a, .int b => some (.sh (.int (Builtin.bitOr a b)))
  | .BitXor, .int a, .int b => some (.sh (.int (Builtin.bitXor a b)))
  | .Add, .lst a, .lst b => if a.length + b.length ≤ sizeL then some (.fr (.lst (a ++ b))) else none
  | .Add, .tup a, .tup b => if a.length + b.length ≤ sizeL then some (.sh (.tup (a ++ b))) else none
  | .Add, .str a, .str b => if a.length + b.length ≤ sizeL then some (.sh (.str (a ++ b))) else none
  | .Mult, .lst a, .int k => if k < 1000000 ∧ -1000000 < k ∧ a.length * k.toNat ≤ sizeL then some (.fr (.lst (List.replicate k.toNat a).flatten)) else none
  | .Add, .bl a, .int b => some (.sh (.int ((if a = true then (1 : Int) else 0) + b)))
  | .Sub, .bl a, .int b => some (.sh (.int ((if a = true then (1 : Int) else 0) - b)))
  | .Sub, .int a, .bl b => some (.sh (.int (a - (if b = true then (1 : Int) else 0))))
  | .Mult, .str a, .int k => if k < 1000000 ∧ -1000000 < k ∧ a.length ≤ 16 ∧ a.length * k.toNat ≤ 1000000 then some (.sh (.str ⟨(List.replicate k.toNat a.cps).foldl (· ++ ·) #[]⟩)) else none
  | .Mult, .tup a, .int k => if a.isEmpty = false ∧ 2 ≤ k ∧ k ≤ 1000 ∧ a.length ≤ 1000 then some (.sh (.tup (List.replicate k.toNat a).flatten)) else if k = 1 then some (.sh (.tup a)) else if k = 0 ∧ a.isEmpty = false then some (.sh (.tup [])) else none
  | _, _, _ => none
/-- a tuple beside the empty one -/
def eq0 : D → D → Option Bool
  | .tup (_ :: _), .tup [] => some false
  | _, _ => none
def eqD (a b : D) : Option Bool := match toPy a, toPy b with
  | some p, some q => if SeqAt.shaped p = true ∧ SeqAt.shaped q = true then some (PyData.eqv p q) else eq0 a b
  | _, _ => eq0 a b
def flatD : D → Bool
  | .non => true | .bl _ => true | .int _ => true | .str _ => true
  | _ => false
/-- == of flat values -/
def eqF : D → D → Bool
  | .non, .non => true
  | .bl a, .bl b => a == b
  | .bl a, .int b => (if a then 1 else 0) == b
  | .int a, .bl b => a == (if b then 1 else 0)
  | .int a, .int b => a == b
  | .str a, .str b => a == b
  | _, _ => false
/-- what a dict holds at a text -/
def dctAt (kvs : List (Key × D)) (x : Str) : Option D := (kvs.find? fun p => decide (p.1 = .inr x)).map (·.2)
/-- what a dict holds at a key -/
def atD {κ : Type} [DecidableEq κ] (kvs : List (κ × D)) (k : κ) : Option D := (kvs.find? fun p => decide (p.1 = k)).map (·.2)
/-- .. stored there -/
def putD {κ : Type} [DecidableEq κ] (kvs : List (κ × D)) (k : κ) (d : D) : List (κ × D) :=
  if (kvs.any fun kv => decide (kv.1 = k)) = true then kvs.map (fun kv => if kv.1 = k then (kv.1, d) else kv) else kvs ++ [(k, d)]
def keyD1 : D → Option Key
  | .int i => some (.inl i)
  | .str x => some (.inr x)
  | _ => none
def keysD : List D → Option (List Key)
  | [] => some []
  | d :: ds => match keyD1 d, keysD ds with
    | some k, some ks => some (k :: ks)
    | _, _ => none
/-- a tuple of ints and texts, of both, as a key -/
def keyD (ds : List D) : Option (List Key) := match keysD ds with
  | some ks => if (ks.any fun k => k.isLeft) = true ∧ (ks.any fun k => k.isRight) = true then some ks else none
  | none => none
/-- pairs of a key and a value -/
def pairD : D → Option (Key × D)
  | .tup [k, d] => (keyD1 k).map fun k => (k, d)
  | _ => none
def pairsD : List D → Option (List (Key × D))
  | [] => some []
  | d :: ds => match pairD d, pairsD ds with
    | some p, some ps => some (p :: ps)
    | _, _ => none
def mergeD (kvs more : List (Key × D)) : List (Key × D) := more.foldl (fun acc kv => putD acc kv.1 kv.2) kvs
def insI (x : Int) : List Int → List Int
  | [] => [x]
  | y :: r => if y < x then y :: insI x r else x :: y :: r
def sortI : List Int → List Int
  | [] => []
  | x :: r => insI x (sortI r)
/-- the keys, if all are ints -/
def keysI : List (Key × D) → Option (List Int)
  | [] => some []
  | (.inl i, _) :: r => (keysI r).map (i :: ·)
  | _ => none
/-- .. of data of any depth -/
def inN (d : D) (xs : List D) : Option Bool := match toPys xs, toPy d with
  | some ps, some p => if SeqAt.shaped p = true ∧ SeqAt.shaped (.list ps) = true then some (ps.any fun z => PyData.eqv z p) else none
  | _, _ => none
/-- .. of texts: a dict is none of them -/
def inT (d : D) (xs : List D) : Option Bool := match d with
  | .dct [] => if xs.all (fun x => match x with | .str _ => true | _ => false) = true then some false else none
  | d => inN d xs
def inD : D → D → Option Bool
  | .str x, .dct kvs => some (dctAt kvs x).isSome
  | .str x, .kdc kvs => some (gvAt kvs x).isSome
  | .int i, .dct kvs => some (atD kvs (Sum.inl i : Key)).isSome
  | .tup ds, .dtc kvs => (keyD ds).map fun k => (atD kvs k).isSome
  | d, .lst xs => if flatD d = true ∧ xs.all flatD = true then some (xs.any fun y => eqF y d) else inN d xs
  | d, .tup xs => if flatD d = true ∧ xs.all flatD = true then some (xs.any fun y => eqF y d) else inT d xs
  | .str x, .str y => some (!(Builtin.Str.occurrences y x 0 y.length 1).isEmpty)
  | _, _ => none
def cmpop : CmpOp → D → D → Option Bool
  | .Lt, .int a, .int b => some (decide (a < b))
  | .LtE, .int a, .int b => some (decide (a ≤ b))
  | .Gt, .int a, .int b => some (decide (b < a))
  | .GtE, .int a, .int b => some (decide (b ≤ a))
  | .Eq, .str a, .str b => some (decide (a = b))
  | .NotEq, .str a, .str b => some (!decide (a = b))
  | .Eq, a, b => eqD a b
  | .NotEq, a, b => (eqD a b).map not
  | .Is, a, .non => match a with
    | .non => some true
    | _ => some false
  | .IsNot, a, .non => match a with
    | .non => some false
    | _ => some true
  | .Is, .bl a, .bl b => some (decide (a = b))
  | .IsNot, .bl a, .bl b => some (!decide (a = b))
  | .In, a, b => inD a b
  | .NotIn, a, b => (inD a b).map not
  | _, _, _ => none
/-- the item of a list at an index of any sign -/
def ixD : D → D → Option D
  | .lst xs, .int i => atI xs i
  | .tup xs, .int i => atI xs i
  | .dct kvs, .str x => dctAt kvs x
  | .kdc kvs, .str x => (gvAt kvs x).map gvD
  | .dct kvs, .int i => atD kvs (Sum.inl i : Key)
  | .dtc kvs, .tup ds => (keyD ds).bind fun k => atD kvs k
  | .str z, .int i => if z.length ≤ sizeL then (atI z.cps.toList i).map fun c => .str ⟨#[c]⟩ else none
  | _, _ => none
def cutD {α : Type} (xs : List α) (lo hi : Option Int) : List α := (xs.drop (HT.sIx xs.length 0 lo)).take (HT.sIx xs.length xs.length hi - HT.sIx xs.length 0 lo)
def pickD {α : Type} (xs : List α) (lo hi : Option Int) (st : Int) : List α :=
  (PySem.sliceRange (sliceBounds lo hi (some st) xs.length).1 (sliceBounds lo hi (some st) xs.length).2.1 (sliceBounds lo hi (some st) xs.length).2.2).filterMap fun k => xs[k]?
def slsD : D → Option Int → Option Int → D → Option Rs
  | .lst xs, lo, hi, .int st => if st = 0 then none else some (.fr (.lst (pickD xs lo hi st)))
  | .tup xs, none, none, .int st => if st = -1 then some (.sh (.tup xs.reverse)) else none
  | _, _, _, _ => none
def slD : D → Option Int → Option Int → Option Rs
  | .lst xs, lo, hi => some (.fr (.lst (cutD xs lo hi)))
  | .tup xs, lo, hi => some (.sh (.tup (cutD xs lo hi)))
  | .str z, lo, hi => if z.length ≤ sizeL then some (.sh (.str (cutS z lo hi))) else none
  | _, _, _ => none
def toInts : List D → Option (List Int)
  | [] => some []
  | .int i :: r => (toInts r).map (i :: ·)
  | _ => none
def toBls : List D → Option (List Bool)
  | [] => some []
  | .bl i :: r => (toBls r).map (i :: ·)
  | _ => none
def toStrs : List D → Option (List Str)
  | [] => some []
  | .str i :: r => (toStrs r).map (i :: ·)
  | _ => none
def insS (x : Str) : List Str → List Str
  | [] => [x]
  | y :: r => if PySem.Spec.ltCps y.cps.toList x.cps.toList = true then y :: insS x r else x :: y :: r
def sortS : List Str → List Str
  | [] => []
  | x :: r => insS x (sortS r)
/-- each one below all behind it -/
def strictS : List Str → Bool
  | [] => true
  | x :: r => (r.all fun y => PySem.Spec.ltCps x.cps.toList y.cps.toList) && strictS r
/-- texts in order, where there is one order alone -/
def sortedD (ns : List Str) : Option Rs := if ns.length < 64 ∧ strictS (sortS ns) = true ∧ (sortS ns).isPerm ns = true then some (.fr (.lst ((sortS ns).map D.str))) else none
def splD : D → D → Option Rs
  | .str x, .str y => if (y.length == 0) = false ∧ x.length + 2 ≤ sizeL then some (.fr (.lst ((Txt.split x y).map D.str))) else none
  | _, _ => none
def ptnD : D → D → Option Rs
  | .str x, .str y => if (y.length == 0) = false ∧ x.length ≤ sizeL then some (.sh (.tup [.str (Txt.partition x y).1, .str (Txt.partition x y).2.1, .str (Txt.partition x y).2.2])) else none
  | _, _ => none
/-- texts joined -/
def jnD : D → D → Option Rs
  | .str x, .lst ys => (toStrs ys).bind fun ss => if (ss.map (·.length)).sum + ss.length * x.length ≤ 16777216 then some (.sh (.str (Txt.join x ss))) else none
  | _, _ => none
/-- numbers, each once -/
def dedI (ns : List Int) : List Int := ns.foldl PyProof.Rows.step_dedup []
def dedS (ns : List Str) : List Str := ns.foldl PyProof.Rows.step_dedup []
/-- texts, each once, in order -/
def srSD : D → Option Rs
  | .lst xs => (toStrs xs).bind fun ss => if ss.length ≤ 4000 then sortedD (dedS ss) else none
  | _ => none
def lnSD : D → Option Rs
  | .lst xs => (toInts xs).bind fun ns => if ns.length ≤ 4000 then some (.sh (.int (dedI ns).length)) else none
  | _ => none
/-- a text's signs -/
def sgnD (x : Str) : List D := x.cps.toList.map fun c => .str ⟨#[c]⟩
def m0D : Tm → Str → Option Rs
  | .up, x => if x.length ≤ 5592405 then some (.sh (.str (Txt.upper x))) else none
  | .dig, x => some (.sh (.bl (Txt.isdigit x)))
  | .asc, x => some (.sh (.bl (Txt.isascii x)))
def zipD : D → D → Option (List D)
  | .lst xs, .lst ys => some (List.zipWith (fun x y => .tup [x, y]) xs ys)
  | .tup xs, .tup ys => some (List.zipWith (fun x y => .tup [x, y]) xs ys)
  | .tup xs, .lst ys => some (List.zipWith (fun x y => .tup [x, y]) xs ys)
  | _, _ => none
def maxI : Int → List Int → Int
  | a, [] => a
  | a, b :: r => maxI (if a < b then b else a) r
def minI : Int → List Int → Int
  | a, [] => a
  | a, b :: r => minI (if b < a then b else a) r
mutual
/-- what repr shows of data: dicts in it are empty -/
def shD : D → Option PyData
  | .non => some .none
  | .bl b => some (.bool b)
  | .int i => some (.int i)
  | .str x => some (.str x)
  | .tup xs => (shDs xs).map .tuple
  | .lst xs => (shDs xs).map .list
  | .dct [] => some (.dict [])
  | .dct [(.inr x, d)] => (shD d).map fun p => .dict [(.str x, p)]
  | .dct ((.inl _, _) :: _) => none
  | .dct (_ :: _ :: _) => none
  | .fnc _ => none
  | .kdc _ => none
  | .dtc _ => none
  | .xc _ _ _ => none
  | .clo _ _ _ _ => none
def shDs : List D → Option (List PyData)
  | [] => some []
  | x :: xs => match shD x, shDs xs with
    | some p, some ps => some (p :: ps)
    | _, _ => none
end
/-- .. and a number below 2 ^ 12000 -/
def reprD (d : D) : Option Rs := match shD d with
  | some p => if p.showable = true ∧ p.depth ≤ 60 ∧ p.shown.length ≤ sizeL then some (.sh (.str p.shown)) else (match d with
    | .int i => if Oks.ok (i.natAbs.log2 < 12000) = true then some (.sh (.str (PyData.int i).shown)) else none
    | _ => none)
  | none => none
def seqOf : D → Option (List D)
  | .lst xs => some xs
  | .tup xs => some xs
  | _ => none
def biF : Bi → List D → Option Rs
  | .len, [.lst xs] => some (.sh (.int xs.length))
  | .len, [.tup xs] => some (.sh (.int xs.length))
  | .len, [.str x] => if x.length ≤ sizeL then some (.sh (.int x.length)) else none
  | .abs, [.int i] => some (.sh (.int (if i < 0 then -i else i)))
  | .min2, [.int a, .int b] => some (.sh (.int (if b < a then b else a)))
  | .max2, [.int a, .int b] => some (.sh (.int (if b > a then b else a)))
  | .int1, [.int i] => some (.sh (.int i))
  | .int1, [.bl b] => some (.sh (.int (if b then 1 else 0)))
  | .str1, [.int i] => if Oks.ok (i.natAbs.log2 < 1900) = true then some (.sh (.str (Str.ofString (toString i)))) else none
  | .str1, [.bl b] => some (.sh (.str (if b = true then "True" else "False")))
  | .repr, [d] => reprD d
  | .sum, [.lst xs] => (toInts xs).map fun ns => .sh (.int ns.sum)
  | .sum, [.tup xs] => (toInts xs).map fun ns => .sh (.int ns.sum)
  | .maxL, [.lst xs] => match toInts xs with
    | some (a :: r) => some (.sh (.int (maxI a r)))
    | _ => none
  | .maxL, [.tup xs] => match toInts xs with
    | some (a :: r) => some (.sh (.int (maxI a r)))
    | _ => none
  | .minL, [.lst xs] => match toInts xs with
    | some (a :: r) => some (.sh (.int (minI a r)))
    | _ => none
  | .minL, [.tup xs] => match toInts xs with
    | some (a :: r) => some (.sh (.int (minI a r)))
    | _ => none
  | .all, [.lst xs] => (toBls xs).map fun bs => .sh (.bl (bs.all id))
  | .any, [.lst xs] => (toBls xs).map fun bs => .sh (.bl (bs.any id))
  | .sorted, [.lst xs] => (toStrs xs).bind sortedD
  | .sorted, [.kdc kvs] => if (kvs.map (·.1)).Nodup then sortedD (kvs.map (·.1)) else none
  | .sorted, [.dct kvs] => (keysI kvs).bind fun is => if is.length < 64 then some (.fr (.lst ((sortI is).map D.int))) else none
  | .dictOf, [.lst xs] => (pairsD xs).map fun kvs => .fr (.dct (mergeD [] kvs))
  | .listOf, [d] => (seqOf d).map fun xs => .fr (.lst xs)
  | .tupleOf, [d] => (seqOf d).map fun xs => .sh (.tup xs)
  | .int1, [.str x] => (PySem.intText? x).bind fun n => if x.length ≤ 640 then some (.sh (.int n)) else none
  | .str1, [.str x] => some (.sh (.str x))
  | _, _ => none
def truD : D → Option Bool
  | .non => some false
  | .bl b => some b
  | .int i => some (i != 0)
  | .str x => if x.length ≤ sizeL then some ((x.length : Int) != 0) else none
  | .lst xs => some (!xs.isEmpty)
  | .tup xs => some (!xs.isEmpty)
  | .dct kvs => some (!kvs.isEmpty)
  | _ => none
def rngD (a b : Int) : List D := (List.range (b - a).toNat).map fun i => D.int (a + (i : Nat))
/-- the ends of a range by its one or two arguments -/
def rngEnds : List D → Option (Int × Int)
  | [.int n] => some (0, n)
  | [.int a, .int b] => some (a, b)
  | _ => none
def rngOk (a b : Int) : Bool := Oks.ok (-(2 ^ 62) ≤ a ∧ a < 2 ^ 62 ∧ -(2 ^ 62) ≤ b ∧ b < 2 ^ 62 ∧ (b - a).toNat ≤ 2 ^ 24)
def itemsD : D → Option (List D)
  | .lst xs => some xs
  | .tup xs => some xs
  | _ => none
inductive Re (α : Type) where
  | ok (a : α) (ρ : Rho)
  | ex (x : Xn) (ρ : Rho)
  | st
def Re.bd {α β : Type} (r : Re α) (f : α → Rho → Re β) : Re β := match r with
  | .ok a ρ => f a ρ
  | .ex x ρ => .ex x ρ
  | .st => .st
def Re.of {α : Type} (o : Option α) (ρ : Rho) : Re α := match o with
  | some a => .ok a ρ
  | none => .st
/-- where an operand is: a value, or in a slot -/
inductive Pl where
  | v (d : D) | s (i : Nat)
def slD? : Sl → Option D
  | .sh d => some d
  | .ow d => some d
  | .io d => some d
  | .no => none
def Pl.at (ρ : Rho) : Pl → Option D
  | .v d => some d
  | .s i => ρ[i]?.bind slD?
def plAll (ρ : Rho) : List Pl → Option (List D)
  | [] => some []
  | p :: ps => match p.at ρ, plAll ρ ps with
    | some d, some ds => some (d :: ds)
    | _, _ => none
/-- a name read where its value may stay -/
def rdVar (i : Nat) (ρ : Rho) : Re Rs := match ρ[i]? with
  | some (.sh d) => .ok (.sh d) ρ
  | some (.ow d) => .ok (.sh d) (ρ.set i (.sh d))
  | _ => .st
/-- a call's end: what comes back, the slots that the callee was lent -/
inductive CR where
  | ok (r : Rs) (back : Rho)
  | ex (x : Xn) (back : Rho)
  | st
abbrev Fn := Str → List Sl → CR
/-- an argument: a shared value, or the own object of a slot -/
abbrev Ag := D ⊕ Nat
def lend (ρ : Rho) : List Ag → Option Rho
  | [] => some []
  | .inl d :: r => (lend ρ r).map (.sh d :: ·)
  | .inr j :: r => match ρ[j]?, lend ρ r with
    | some (.ow d), some q => some (.io d :: q)
    | some (.io d), some q => some (.io d :: q)
    | _, _ => none
def lent : List Ag → List Nat
  | [] => []
  | .inl _ :: r => lent r
  | .inr j :: r => j :: lent r
/-- the lent objects come back -/
def home : List Ag → Rho → Rho → Option Rho
  | [], _, ρ => some ρ
  | .inl _ :: r, _ :: q, ρ => home r q ρ
  | .inr j :: r, .io d :: q, ρ => match ρ[j]? with
    | some (.ow _) => home r q (ρ.set j (.ow d))
    | some (.io _) => home r q (ρ.set j (.io d))
    | _ => none
  | _, _, _ => none
def called (cf : Fn) (f : Str) (as : List Ag) (ρ : Rho) : Re Rs := match lend ρ as with
  | some sls => if (lent as).Nodup then (match cf f sls with
    | .ok r back => (match home as back ρ with
      | some ρ' => .ok r ρ'
      | none => .st)
    | .ex x back => (match home as back ρ with
      | some ρ' => .ex x ρ'
      | none => .st)
    | .st => .st) else .st
  | none => .st
def setSh (i : Nat) (d : D) (ρ : Rho) : Option Rho := match ρ[i]? with
  | some (.io _) => none
  | some _ => some (ρ.set i (.sh d))
  | none => none
def setShs : List Nat → List D → Rho → Option Rho
  | [], [], ρ => some ρ
  | i :: is, d :: ds, ρ => (setSh i d ρ).bind (setShs is ds)
  | _, _, _ => none
def bindT : CT → D → Rho → Option Rho
  | .nm i, d, ρ => setSh i d ρ
  | .tp is, .tup ds, ρ => setShs is ds ρ
  | _, _, _ => none
/-- slots forgotten -/
def wipeR (ρ : Rho) : List Nat → Rho
  | [] => ρ
  | i :: is => (wipeR ρ is).set i .no
/-- slots as they were in ρ0 -/
def backR (ρ0 ρ : Rho) : List Nat → Rho
  | [] => ρ
  | i :: is => match ρ0[i]? with
    | some s => (backR ρ0 ρ is).set i s
    | none => backR ρ0 ρ is
def lcRun (step : D → Rho → Re (Option D)) : List D → Rho → Re (List D)
  | [], ρ => .ok [] ρ
  | x :: xs, ρ => match step x ρ with
    | .ok o ρ1 => (match lcRun step xs ρ1 with
      | .ok ds ρ2 => .ok (o.toList ++ ds) ρ2
      | _ => .st)
    | _ => .st
def noOwn (ρ : Rho) (is : List Nat) : Bool := is.all fun i => match ρ[i]? with
  | some s => !s.own
  | none => false
/-- what an expression does: as a value, as a test, as an operand (a name's value left where it is), as what a return gives -/
structure Sm where
  v : Rho → Re Rs
  t : Rho → Re Bool
  o : Rho → Re Pl
  r : Rho → Re Rs
def Sm.of (v : Rho → Re Rs) : Sm := ⟨v, fun ρ => (v ρ).bd fun r ρ1 => .of (truD r.d) ρ1, fun ρ => (v ρ).bd fun r ρ1 => .ok (.v r.d) ρ1, v⟩
def Sm.vt (v : Rho → Re Rs) (t : Rho → Re Bool) : Sm := ⟨v, t, fun ρ => (v ρ).bd fun r ρ1 => .ok (.v r.d) ρ1, v⟩
def smVar (i : Nat) : Sm where
  v := rdVar i
  t := fun ρ => match ρ[i]?.bind slD? with
    | some d => .of (truD d) ρ
    | none => .st
  o := fun ρ => match ρ[i]?.bind slD? with
    | some _ => .ok (.s i) ρ
    | none => .st
  r := fun ρ => match ρ[i]? with
    | some (.sh d) => .ok (.sh d) ρ
    | some (.ow d) => .ok (.fr d) (ρ.set i .no)
    | _ => .st
def op1 (a : Rho → Re Pl) (k : D → Rho → Re Rs) : Rho → Re Rs := fun ρ => (a ρ).bd fun p ρ1 => match p.at ρ1 with
  | some x => k x ρ1
  | none => .st
def op2 (a b : Rho → Re Pl) (k : D → D → Rho → Re Rs) : Rho → Re Rs := fun ρ => (a ρ).bd fun p ρ1 => (b ρ1).bd fun q ρ2 => match p.at ρ2, q.at ρ2 with
  | some x, some y => k x y ρ2
  | _, _ => .st
def negD : D → Option Rs
  | .int i => some (.sh (.int (-i)))
  | _ => none
def notD (d : D) : Option Rs := (truD d).map fun c => .sh (.bl (!c))
def invD : D → Option Rs
  | .int i => some (.sh (.int (Builtin.bitNot i)))
  | _ => none
def chnV (o o' : CmpOp) (a b c : Rho → Re Pl) : Rho → Re Rs := fun ρ => (a ρ).bd fun p ρ1 => (b ρ1).bd fun q ρ2 => match p.at ρ2, q.at ρ2 with
  | some x, some y => (match cmpop o x y with
    | some false => .ok (.sh (.bl false)) ρ2
    | some true => (c ρ2).bd fun r ρ3 => (match q.at ρ3, r.at ρ3 with
      | some y, some z => .of ((cmpop o' y z).map fun k => .sh (.bl k)) ρ3
      | _, _ => .st)
    | none => .st)
  | _, _ => .st
def evBs : List Sm → Rho → Re (List Pl)
  | [], ρ => .ok [] ρ
  | e :: es, ρ => (e.o ρ).bd fun p ρ1 => (evBs es ρ1).bd fun ps ρ2 => .ok (p :: ps) ρ2
def evEs : List Sm → Rho → Re (List D)
  | [], ρ => .ok [] ρ
  | e :: es, ρ => (e.v ρ).bd fun r ρ1 => (evEs es ρ1).bd fun ds ρ2 => .ok (r.d :: ds) ρ2
/-- .. and the items of one more behind them -/
def evSt : List Sm → Sm → Rho → Re (List D)
  | [], s, ρ => (s.v ρ).bd fun r ρ1 => match seqOf r.d with
    | some xs => .ok xs ρ1
    | none => .st
  | e :: es, s, ρ => (e.v ρ).bd fun r ρ1 => (evSt es s ρ1).bd fun ds ρ2 => .ok (r.d :: ds) ρ2
/-- items of a list or tuple, and more behind them -/
def evSf (s : Sm) (es : List Sm) : Rho → Re (List D) := fun ρ => (s.v ρ).bd fun r ρ1 => match seqOf r.d with
  | some xs => (evEs es ρ1).bd fun ds ρ2 => .ok (xs ++ ds) ρ2
  | none => .st
def evA : List (Sm ⊕ Nat) → Rho → Re (List Ag)
  | [], ρ => .ok [] ρ
  | .inl e :: es, ρ => (e.v ρ).bd fun r ρ1 => (evA es ρ1).bd fun ds ρ2 => .ok (.inl r.d :: ds) ρ2
  | .inr j :: es, ρ => match ρ[j]? with
    | some s => if s.own = true then (evA es ρ).bd fun ds ρ2 => .ok (.inr j :: ds) ρ2 else .st
    | none => .st
/-- a chain of and (or) as a test -/
def evTo (k : Bool) : List Sm → Rho → Re Bool
  | [], _ => .st
  | [e], ρ => e.t ρ
  | e :: es, ρ => (e.t ρ).bd fun c ρ1 => if c = k then evTo k es ρ1 else .ok c ρ1
/-- a chain of and (or) of truth values, as a value -/
def evO (k : Bool) : List Sm → Rho → Re Rs
  | [], _ => .st
  | [e], ρ => e.v ρ
  | e :: es, ρ => (e.v ρ).bd fun r ρ1 => match r.d with
    | .bl c => if c = k then evO k es ρ1 else .ok (.sh (.bl c)) ρ1
    | _ => .st
/-- the tests of a comprehension: none or one -/
def evTs : List Sm → Rho → Re Bool
  | [], ρ => .ok true ρ
  | [e], ρ => e.t ρ
  | _, _ => .st
def evOp : Option Sm → Rho → Re (Option Int)
  | none, ρ => .ok none ρ
  | some e, ρ => (e.v ρ).bd fun r ρ1 => match r.d with
    | .int i => .ok (some i) ρ1
    | _ => .st
def biV (f : Bi) (es : List Sm) : Rho → Re Rs := fun ρ => (evBs es ρ).bd fun ps ρ1 => match plAll ρ1 ps with
  | some ds => .of (biF f ds) ρ1
  | none => .st
def rngK (ds : List D) (ρ1 : Rho) : Re (List D) := match rngEnds ds with
  | some (a, b) => if rngOk a b = true then .ok (rngD a b) ρ1 else .st
  | none => .st
def rngI (es : List Sm) : Rho → Re (List D) := fun ρ => (evEs es ρ).bd rngK
/-- a range from its end -/
def rrgI (es : List Sm) : Rho → Re (List D) := fun ρ => (rngI es ρ).bd fun ds ρ1 => .ok ds.reverse ρ1
def rng3D (a b c : Int) : List D := (List.range (Builtin.Range.rangeSize a b c).toNat).map fun i => D.int (a + (i : Nat) * c)
def rng3K (ds : List D) (ρ1 : Rho) : Re (List D) := match ds with
  | [.int a, .int b, .int c] => if Oks.ok (-1000000 ≤ a ∧ a ≤ 1000000 ∧ -1000000 ≤ b ∧ b ≤ 1000000 ∧ 0 < c ∧ c ≤ 1000) = true then .ok (rng3D a b c) ρ1 else .st
  | _ => .st
def rng3I (es : List Sm) : Rho → Re (List D) := fun ρ => (evEs es ρ).bd rng3K
def sgnI (e : Sm) : Rho → Re (List D) := fun ρ => (e.v ρ).bd fun r ρ1 => match r.d with
  | .str x => .ok (sgnD x) ρ1
  | _ => .st
def rngV (k : List D → Rs) (es : List Sm) : Rho → Re Rs := fun ρ => (rngI es ρ).bd fun ds ρ1 => .ok (k ds) ρ1
def enuD (xs : List D) : List D := xs.zipIdx.map fun p => .tup [.int (p.2 : Nat), p.1]
def enuI (e : Sm) : Rho → Re (List D) := fun ρ => (e.v ρ).bd fun r ρ1 => match itemsD r.d with
  | some xs => .ok (enuD xs) ρ1
  | none => .st
def slV (a : Sm) (lo hi : Option Sm) : Rho → Re Rs := fun ρ => (a.o ρ).bd fun p ρ1 => (evOp lo ρ1).bd fun l ρ2 => (evOp hi ρ2).bd fun h ρ3 => match p.at ρ3 with
  | some x => .of (slD x l h) ρ3
  | none => .st
def slsV (a : Sm) (lo hi : Option Sm) (st : Sm) : Rho → Re Rs := fun ρ => (a.o ρ).bd fun p ρ1 => (evOp lo ρ1).bd fun l ρ2 => (evOp hi ρ2).bd fun h ρ3 => (st.v ρ3).bd fun r ρ4 => match p.at ρ4 with
  | some x => .of (slsD x l h r.d) ρ4
  | none => .st
/-- a method of a text with one text -/
def stV (a b : Sm) (k : D → D → Option Rs) : Rho → Re Rs := fun ρ => (a.v ρ).bd fun r ρ1 => match r.d with
  | .str x => (b.v ρ1).bd fun r2 ρ2 => .of (k (.str x) r2.d) ρ2
  | _ => .st
def zipI (a b : Sm) : Rho → Re (List D) := fun ρ => (a.v ρ).bd fun r ρ1 => (b.v ρ1).bd fun r2 ρ2 => .of (zipD r.d r2.d) ρ2
def m0V (m : Tm) (a : Sm) : Rho → Re Rs := fun ρ => (a.v ρ).bd fun r ρ1 => match r.d with
  | .str x => .of (m0D m x) ρ1
  | _ => .st
/-- a display of a dict with texts as keys -/
def dctD (ks : List Str) (ds : List D) : List (Key × D) := List.zipWith (fun k d => (Sum.inr k, d)) ks ds
def lcTurn (tg : CT) (ifs : List Sm) (e : Sm) (x : D) (ρ : Rho) : Re (Option D) := match bindT tg x ρ with
  | some ρ2 => (evTs ifs ρ2).bd fun c ρ3 => if c = true then (e.v ρ3).bd fun r ρ4 => .ok (some r.d) (wipeR ρ4 tg.ix) else .ok none (wipeR ρ3 tg.ix)
  | none => .st
def lcV (tg : CT) (it : Rho → Re (List D)) (ifs : List Sm) (e : Sm) : Rho → Re Rs := fun ρ => (it ρ).bd fun xs ρ1 => if noOwn ρ1 tg.ix = true then
    (match lcRun (lcTurn tg ifs e) xs (wipeR ρ1 tg.ix) with
      | .ok ds ρ5 => if ds.length < sizeL then .ok (.fr (.lst ds)) (backR ρ1 ρ5 tg.ix) else .st
      | _ => .st)
  else .st
/-- a comprehension of two clauses -/
def lcRun2 (step : D → Rho → Re (List D)) : List D → Rho → Re (List D)
  | [], ρ => .ok [] ρ
  | x :: xs, ρ => match step x ρ with
    | .ok o ρ1 => (match lcRun2 step xs ρ1 with
      | .ok ds ρ2 => .ok (o ++ ds) ρ2
      | _ => .st)
    | _ => .st
def lc2Turn (tg : CT) (tg1 : CT) (it1 : Rho → Re (List D)) (e : Sm) (x : D) (ρ : Rho) : Re (List D) := match bindT tg x ρ with
  | some ρ2 => (it1 ρ2).bd fun ys ρ3 => match lcRun (lcTurn tg1 [] e) ys (wipeR ρ3 tg1.ix) with
    | .ok ds ρ4 => .ok ds (wipeR ρ4 (tg.ix ++ tg1.ix))
    | _ => .st
  | none => .st
def lc2V (tg : CT) (it : Rho → Re (List D)) (tg1 : CT) (it1 : Rho → Re (List D)) (e : Sm) : Rho → Re Rs := fun ρ => (it ρ).bd fun xs ρ1 => if noOwn ρ1 (tg.ix ++ tg1.ix) = true then
    (match lcRun2 (lc2Turn tg tg1 it1 e) xs (wipeR ρ1 (tg.ix ++ tg1.ix)) with
      | .ok ds ρ5 => if ds.length < sizeL then .ok (.fr (.lst ds)) (backR ρ1 ρ5 (tg.ix ++ tg1.ix)) else .st
      | _ => .st)
  else .st
/-- a.get(k, d) of a dict -/
def holeV (i : Nat) : Rho → Re Rs := fun ρ => match ρ[i]? with
  | some (.sh (.clo 0 _ _ d)) => .ok (.sh d) ρ
  | some (.sh (.clo _ x f d)) => .ex ⟨x, [(f, d)]⟩ ρ
  | _ => .st
/-- what a closure sees of its maker's slots -/
def shOnly (ρ : Rho) : Rho := ρ.map fun s => match s with
  | .sh d => .sh d
  | _ => .no
/-- what a call of it gives -/
def lamO (r : Re Rs) : Option (Nat × Str × Str × D) := match r with
  | .ok r _ => some (0, ("" : Str), ("" : Str), r.d)
  | .ex x _ => (match x.fs with
    | [(f, d)] => some (1, x.cls, f, d)
    | _ => none)
  | .st => none
mutual
/-- no closure in it -/
def noClo : D → Bool
  | .tup xs => noClos xs
  | .lst xs => noClos xs
  | .non => true
  | .bl _ => true
  | .int _ => true
  | .str _ => true
  | .dct [] => true
  | .dct [(.inr _, d)] => noClo d
  | _ => false
def noClos : List D → Bool
  | [] => true
  | d :: ds => noClo d && noClos ds
end
/-- t(lambda: e) -/
def tellV (cf : Str → List Sl → CR) (t : Str) (e : Sm) : Rho → Re Rs := fun ρ => match lamO (e.v (shOnly ρ)) with
  | some (k, x, f, d) => if noClo d = true then (match cf t [.sh (.clo k x f d)] with
    | .ok r _ => if noClo r.d = true then .ok r ρ else .st
    | _ => .st) else .st
  | none => .st
def lmV (a b : Sm) (k : D → D → Option Rs) : Rho → Re Rs := fun ρ => (a.o ρ).bd fun p ρ1 => match p.at ρ1 with
  | some (.lst _) => (b.v ρ1).bd fun r ρ2 => match p.at ρ2 with
    | some x => .of (k x r.d) ρ2
    | none => .st
  | _ => .st
def dgetV (a k d : Sm) : Rho → Re Rs := fun ρ => (a.o ρ).bd fun p ρ1 => match p.at ρ1 with
  | some (.dct _) => (k.v ρ1).bd fun r ρ2 => (d.v ρ2).bd fun r2 ρ3 => match p.at ρ3, r.d with
    | some (.dct kvs), .str x => .ok (.sh ((dctAt kvs x).getD r2.d)) ρ3
    | _, _ => .st
  | _ => .st
/-- arguments in the parameters' order -/
def permL {α : Type} (pm : List Nat) (l : List α) : List α := pm.filterMap fun i => l[i]?
/-- the slot's own list, without its last item -/
def chg (i : Nat) (f : List D → Option (List D)) (ρ : Rho) : Option Rho := match ρ[i]? with
  | some (.ow (.lst xs)) => (f xs).map fun ys => ρ.set i (.ow (.lst ys))
  | some (.io (.lst xs)) => (f xs).map fun ys => ρ.set i (.io (.lst ys))
  | _ => none
def ownL (i : Nat) (ρ : Rho) : Bool := match ρ[i]? with
  | some (.ow (.lst _)) => true
  | some (.io (.lst _)) => true
  | _ => false
def lastAt (i : Nat) (ρ : Rho) : Option D := match ρ[i]?.bind slD? with
  | some (.lst xs) => xs[xs.length - 1]?
  | _ => none
def popV (i : Nat) : Rho → Re Rs := fun ρ => if ownL i ρ = true then (match lastAt i ρ, chg i (fun xs => some xs.dropLast) ρ with
  | some y, some ρ1 => .ok (.sh y) ρ1
  | _, _ => .st) else .st
/-- a call whose one argument is a new object, given away -/
def callFV (cf : Fn) (f : Str) (e : Sm) : Rho → Re Rs := fun ρ => (e.v ρ).bd fun r ρ1 => match r with
  | .fr d => (match cf f [.io d] with
    | .ok r2 _ => .ok r2 ρ1
    | .ex x _ => .ex x ρ1
    | .st => .st)
  | .sh _ => .st
def callVV (cf : Fn) (i : Nat) (fs : List Str) (as : List (Sm ⊕ Nat)) : Rho → Re Rs := fun ρ => match ρ[i]? with
  | some (.sh (.fnc x)) => if fs.contains x = true then (evA as ρ).bd fun xs ρ1 => called cf x xs ρ1 else .st
  | _ => .st
mutual
def sm (cf : Fn) : CE → Sm
  | .var i => smVar i
  | .int i => .of fun ρ => .ok (.sh (.int i)) ρ
  | .bl b => .of fun ρ => .ok (.sh (.bl b)) ρ
  | .non => .of fun ρ => .ok (.sh .non) ρ
  | .str x => .of fun ρ => .ok (.sh (.str x)) ρ
  | .fnc x => .of fun ρ => .ok (.sh (.fnc x)) ρ
  | .bin op a b => .of (op2 (sm cf a).o (sm cf b).o fun x y ρ => .of (binop op x y) ρ)
  | .neg a => .of (op1 (sm cf a).o fun x ρ => .of (negD x) ρ)
  | .inv a => .of (op1 (sm cf a).o fun x ρ => .of (invD x) ρ)
  | .cmp op a b => .of (op2 (sm cf a).o (sm cf b).o fun x y ρ => .of ((cmpop op x y).map fun k => .sh (.bl k)) ρ)
  | .chn o o' a b c => .of (chnV o o' (sm cf a).o (sm cf b).o (sm cf c).o)
  | .bop k es => .vt (evO k (sms cf es)) (evTo k (sms cf es))
  | .nt a => .vt (op1 (sm cf a).o fun x ρ => .of (notD x) ρ) (fun ρ => ((sm cf a).t ρ).bd fun c ρ1 => .ok (!c) ρ1)
  | .ite c a b => .vt (fun ρ => ((sm cf c).t ρ).bd fun t ρ1 => if t = true then (sm cf a).v ρ1 else (sm cf b).v ρ1) (fun _ => .st)
  | .tupS es e => .of fun ρ => (evSt (sms cf es) (sm cf e) ρ).bd fun ds ρ1 => if ds.length ≤ sizeL then .ok (.sh (.tup ds)) ρ1 else .st
  | .tup es => .of fun ρ => (evEs (sms cf es) ρ).bd fun ds ρ1 => if ds.length ≤ sizeL then .ok (.sh (.tup ds)) ρ1 else .st
  | .lstS e es => .of fun ρ => (evSf (sm cf e) (sms cf es) ρ).bd fun ds ρ1 => if ds.length ≤ sizeL then .ok (.fr (.lst ds)) ρ1 else .st
  | .jn a b => .of (stV (sm cf a) (sm cf b) jnD)
  | .lnS a => .of fun ρ => ((sm cf a).v ρ).bd fun r ρ1 => .of (lnSD r.d) ρ1
  | .srS a => .of fun ρ => ((sm cf a).v ρ).bd fun r ρ1 => .of (srSD r.d) ρ1
  | .srC tg it e => .of fun ρ => (lcV tg (smI cf it) [] (sm cf e) ρ).bd fun r ρ1 => .of (srSD r.d) ρ1
  | .lst es => .of fun ρ => (evEs (sms cf es) ρ).bd fun ds ρ1 => if ds.length ≤ sizeL then .ok (.fr (.lst ds)) ρ1 else .st
  | .dct ks es => .of fun ρ => (evEs (sms cf es) ρ).bd fun ds ρ1 => .ok (.fr (.dct (dctD ks ds))) ρ1
  | .popL i => .of (popV i)
  | .dctT => .of fun ρ => .ok (.fr (.dtc [])) ρ
  | .gd _ kvs => .of fun ρ => .ok (.sh (.kdc kvs)) ρ
  | .gc _ c => .of fun ρ => .ok (.sh (gcD c)) ρ
  | .spl a b => .of (stV (sm cf a) (sm cf b) splD)
  | .ptn a b => .of (stV (sm cf a) (sm cf b) ptnD)
  | .m0 m a => .of (m0V m (sm cf a))
  | .ix a i => .of (op2 (sm cf a).o (sm cf i).o fun x y ρ => .of ((ixD x y).map .sh) ρ)
  | .sl a lo hi => .of (slV (sm cf a) (smO cf lo) (smO cf hi))
  | .sls a lo hi st => .of (slsV (sm cf a) (smO cf lo) (smO cf hi) (sm cf st))
  | .bi f es => .of (biV f (sms cf es))
  | .isi t a => .of (op1 (sm cf a).o fun x ρ => .of ((isiD t x).map fun b => .sh (.bl b)) ρ)
  | .hole i => .of (holeV i)
  | .tell t e => .of (tellV cf t (sm cf e))
  | .isx _ xs a => .of (op1 (sm cf a).o fun x ρ => .of ((isxD xs x).map fun b => .sh (.bl b)) ρ)
  | .cnt a b => .of (lmV (sm cf a) (sm cf b) cntD)
  | .idx a b => .of (lmV (sm cf a) (sm cf b) idxD)
  | .att f a => .of (op1 (sm cf a).o fun x ρ => .of ((attD f x).map .sh) ρ)
  | .rngL es => .of (rngV (fun ds => .fr (.lst ds)) (sms cf es))
  | .rngT es => .of (rngV (fun ds => .sh (.tup ds)) (sms cf es))
  | .call f as => .of fun ρ => (evA (smA cf as) ρ).bd fun xs ρ1 => called cf f xs ρ1
  | .callK f n as ks es pm => .of fun ρ => (evA (smA cf as) ρ).bd fun xs ρ1 => (evEs (sms cf es) ρ1).bd fun ds ρ2 => if xs.length = n ∧ ds.length = ks.length then called cf f (permL pm (xs ++ ds.map .inl)) ρ2 else .st
  | .call0 f => .of fun ρ => called cf f [] ρ
  | .callF f e => .of (callFV cf f (sm cf e))
  | .callV i fs as => .of (callVV cf i fs (smA cf as))
  | .dget a k d => .of (dgetV (sm cf a) (sm cf k) (sm cf d))
  | .lc2 tg it tg1 it1 e => .of (lc2V tg (smI cf it) tg1 (smI cf it1) (sm cf e))
  | .lc tg it ifs e => .of (lcV tg (smI cf it) (sms cf ifs) (sm cf e))
def smO (cf : Fn) : CO → Option Sm
  | .none => none
  | .some e => some (sm cf e)
def sms (cf : Fn) : CEs → List Sm
  | .nil => []
  | .cons e es => sm cf e :: sms cf es
def smA (cf : Fn) : CAs → List (Sm ⊕ Nat)
  | .nil => []
  | .ex e es => .inl (sm cf e) :: smA cf es
  | .io j es => .inr j :: smA cf es
def smI (cf : Fn) : CI → Rho → Re (List D)
  | .ex e => fun ρ => ((sm cf e).v ρ).bd fun r ρ1 => .of (itemsD r.d) ρ1
  | .rng es => rngI (sms cf es)
  | .enu e => enuI (sm cf e)
  | .zip a b => zipI (sm cf a) (sm cf b)
  | .rrng es => rrgI (sms cf es)
  | .rng3 es => rng3I (sms cf es)
  | .sgn e => sgnI (sm cf e)
end
inductive Out where
  | nx | bk | ct
  | rt (r : Rs)
def setRs (i : Nat) (r : Rs) (ρ : Rho) : Option Rho := match ρ[i]? with
  | some (.io _) => none
  | some _ => some (ρ.set i (match r with
    | .sh d => .sh d
    | .fr d => .ow d))
  | none => none
def forRun (step : D → Rho → Re Out) : List D → Rho → Re Out
  | [], ρ => .ok .nx ρ
  | x :: xs, ρ => match step x ρ with
    | .ok .nx ρ1 => forRun step xs ρ1
    | .ok .ct ρ1 => forRun step xs ρ1
    | .ok .bk ρ1 => .ok .nx ρ1
    | .ok (.rt r) ρ1 => .ok (.rt r) ρ1
    | .ex x ρ1 => .ex x ρ1
    | .st => .st
def whlRun (test : Rho → Re Bool) (step : Rho → Re Out) : Nat → Rho → Re Out
  | 0, _ => .st
  | n + 1, ρ => (test ρ).bd fun c ρ1 => if c = true then (match step ρ1 with
    | .ok .nx ρ2 => whlRun test step n ρ2
    | .ok .ct ρ2 => whlRun test step n ρ2
    | .ok .bk ρ2 => .ok .nx ρ2
    | .ok (.rt r) ρ2 => .ok (.rt r) ρ2
    | .ex x ρ2 => .ex x ρ2
    | .st => .st) else .ok .nx ρ1
def asgV (i : Nat) (e : Sm) : Rho → Re Out := fun ρ => (e.v ρ).bd fun r ρ1 => match setRs i r ρ1 with
  | some ρ2 => .ok .nx ρ2
  | none => .st
def asgTV (is : List Nat) (e : Sm) : Rho → Re Out := fun ρ => (e.v ρ).bd fun r ρ1 => match bindT (.tp is) r.d ρ1 with
  | some ρ2 => .ok .nx ρ2
  | none => .st
def asgLV (is : List Nat) (e : Sm) : Rho → Re Out := fun ρ => (e.v ρ).bd fun r ρ1 => match r.d with
  | .lst ds => (match setShs is ds ρ1 with
    | some ρ2 => .ok .nx ρ2
    | none => .st)
  | _ => .st
/-- several values, each as it comes -/
def evRs : List Sm → Rho → Re (List Rs)
  | [], ρ => .ok [] ρ
  | e :: es, ρ => (e.v ρ).bd fun r ρ1 => (evRs es ρ1).bd fun rs ρ2 => .ok (r :: rs) ρ2
def setRss : List Nat → List Rs → Rho → Option Rho
  | [], [], ρ => some ρ
  | i :: is, r :: rs, ρ => (setRs i r ρ).bind (setRss is rs)
  | _, _, _ => none
def parV (is : List Nat) (es : List Sm) : Rho → Re Out := fun ρ => (evRs es ρ).bd fun rs ρ1 => match setRss is rs ρ1 with
  | some ρ2 => .ok .nx ρ2
  | none => .st
/-- a, .., *r = e -/
def asgSV (is : List Nat) (j : Nat) (e : Sm) : Rho → Re Out := fun ρ => (e.v ρ).bd fun r ρ1 => match itemsD r.d with
  | some xs => if is.length ≤ xs.length ∧ xs.length ≤ 10000 then (match (setShs is (xs.take is.length) ρ1).bind (setRs j (.fr (.lst (xs.drop is.length)))) with
    | some ρ2 => .ok .nx ρ2
    | none => .st) else .st
  | none => .st
/-- a += e of numbers -/
def augV (i : Nat) (e : Sm) : Rho → Re Out := fun ρ => match ρ[i]? with
  | some (.sh (.int a)) => (e.v ρ).bd fun r ρ1 => (match r.d with
    | .int b => (match setSh i (.int (a + b)) ρ1 with
      | some ρ2 => .ok .nx ρ2
      | none => .st)
    | _ => .st)
  | _ => .st
def setiV (i : Nat) (k e : Sm) : Rho → Re Out := fun ρ => (e.v ρ).bd fun r ρ1 => if ownL i ρ1 = true then (k.v ρ1).bd fun p ρ2 => (match p.d with
  | .int j => (match chg i (fun xs => (ixN xs.length j).map fun n => xs.set n r.d) ρ2 with
    | some ρ3 => .ok .nx ρ3
    | none => .st)
  | _ => .st) else .st
def ownD (i : Nat) (ρ : Rho) : Bool := match ρ[i]? with
  | some (.ow (.dct _)) => true
  | some (.ow (.dtc _)) => true
  | some (.io (.dct _)) => true
  | some (.io (.dtc _)) => true
  | _ => false
/-- a dict behind d[y] = e -/
def putDD (y e : D) : D → Option D
  | .dct kvs => if kvs.length < sizeL then (keyD1 y).map fun k => .dct (putD kvs k e) else none
  | .dtc kvs => match y with
    | .tup ds => if kvs.length < sizeL then (keyD ds).map fun k => .dtc (putD kvs k e) else none
    | _ => none
  | _ => none
/-- the slot's own dict, changed -/
def chgD (i : Nat) (f : D → Option D) (ρ : Rho) : Option Rho := match ρ[i]? with
  | some (.ow d) => (f d).map fun d' => ρ.set i (.ow d')
  | some (.io d) => (f d).map fun d' => ρ.set i (.io d')
  | _ => none
def setdV (i : Nat) (k e : Sm) : Rho → Re Out := fun ρ => (e.v ρ).bd fun r ρ1 => if ownD i ρ1 = true then (k.v ρ1).bd fun p ρ2 => (match chgD i (putDD p.d r.d) ρ2 with
  | some ρ3 => .ok .nx ρ3
  | none => .st) else .st
def appV (i : Nat) (e : Sm) : Rho → Re Out := fun ρ => if ownL i ρ = true then (e.v ρ).bd fun r ρ1 => (match chg i (fun xs => if xs.length < sizeL then some (xs ++ [r.d]) else none) ρ1 with
  | some ρ2 => .ok .nx ρ2
  | none => .st) else .st
def extV (i : Nat) (e : Sm) : Rho → Re Out := fun ρ => if ownL i ρ = true then (e.v ρ).bd fun r ρ1 => (match r with
  | .fr (.lst ys) => (match chg i (fun xs => if xs.length + ys.length ≤ sizeL then some (xs ++ ys) else none) ρ1 with
    | some ρ2 => .ok .nx ρ2
    | none => .st)
  | .sh (.lst ys) => (match chg i (fun xs => if xs.length + ys.length ≤ sizeL then some (xs ++ ys) else none) ρ1 with
    | some ρ2 => .ok .nx ρ2
    | none => .st)
  | _ => .st) else .st
def setNo (j : Nat) (ρ : Rho) : Option Rho := match ρ[j]? with
  | some (.sh _) => some (ρ.set j .no)
  | some .no => some (ρ.set j .no)
  | _ => none
def tbV (m : TB) (e : Sm) : Rho → Re Out := match m with
  | .ret => fun ρ => (e.r ρ).bd fun r ρ1 => .ok (.rt r) ρ1
  | .exp => fun ρ => (e.v ρ).bd fun _ ρ1 => .ok .nx ρ1
  | .asg k => asgV k e
/-- except .. as j: i = j -/
def tryV (f : Rho → Re Out) (i j : Nat) : Rho → Re Out := fun ρ => match f ρ with
  | .ok o ρ1 => .ok o ρ1
  | .ex x ρ1 => (match x.fs with
    | [(n, d)] => if i ≠ j then (match (setSh i (.xc x.cls n d) ρ1).bind (setNo j) with
      | some ρ2 => .ok .nx ρ2
      | none => .st) else .st
    | _ => .st)
  | .st => .st
/-- .. of a class alone -/
def tryC (r : Str) (f : Rho → Re Out) : Rho → Re Out := fun ρ => match f ρ with
  | .ok o ρ1 => .ok o ρ1
  | .ex x ρ1 => if x.cls = r then .ex x ρ1 else .st
  | .st => .st
def rseV (x f : Str) (e : Sm) : Rho → Re Out := fun ρ => (e.v ρ).bd fun r ρ1 => .ex ⟨x, [(f, r.d)]⟩ ρ1
def forTurn (tg : CT) (body : Rho → Re Out) (x : D) (ρ : Rho) : Re Out := match bindT tg x ρ with
  | some ρ2 => body ρ2
  | none => .st
mutual
def ss (cf : Fn) : CS → Rho → Re Out
  | .asg i e => asgV i (sm cf e)
  | .asgT is e => asgTV is (sm cf e)
  | .asgL is e => asgLV is (sm cf e)
  | .par is es => parV is (sms cf es)
  | .asgS is j e => asgSV is j (sm cf e)
  | .aug i e => augV i (sm cf e)
  | .seti i k e => setiV i (sm cf k) (sm cf e)
  | .setd i k e => setdV i (sm cf k) (sm cf e)
  | .app i e => appV i (sm cf e)
  | .ext i e => extV i (sm cf e)
  | .exp e => fun ρ => ((sm cf e).v ρ).bd fun _ ρ1 => .ok .nx ρ1
  | .ifs c a b => fun ρ => ((sm cf c).t ρ).bd fun t ρ1 => if t = true then sss cf a ρ1 else sss cf b ρ1
  | .fors tg it body => fun ρ => (smI cf it ρ).bd fun xs ρ1 => forRun (forTurn tg (sss cf body)) xs ρ1
  | .whl n c body => whlRun (sm cf c).t (sss cf body) n
  | .ret e => fun ρ => ((sm cf e).r ρ).bd fun r ρ1 => .ok (.rt r) ρ1
  | .retN => fun ρ => .ok (.rt (.sh .non)) ρ
  | .pass => fun ρ => .ok .nx ρ
  | .brk => fun ρ => .ok .bk ρ
  | .cnt => fun ρ => .ok .ct ρ
  | .nev => fun _ => .st
  | .rse x f e => rseV x f (sm cf e)
  | .tryx m e i j _ => tryV (tbV m (sm cf e)) i j
  | .tryc m e i j r => tryV (tryC r (tbV m (sm cf e))) i j
def sss (cf : Fn) : CSs → Rho → Re Out
  | .nil => fun ρ => .ok .nx ρ
  | .cons s r => fun ρ => (ss cf s ρ).bd fun o ρ1 => match o with
    | .nx => sss cf r ρ1
    | o => .ok o ρ1
end
/-- a def run -/
def runD (cf : Fn) (c : CDef) (args : List Sl) : CR :=
  if args.length = c.np then (match sss cf c.body (args ++ List.replicate (c.ns - c.np) .no) with
    | .ok (.rt r) ρ => .ok r (ρ.take c.np)
    | .ok .nx ρ => .ok (.sh .non) (ρ.take c.np)
    | .ex x ρ => .ex x (ρ.take c.np)
    | _ => .st)
  else .st
/-- the defs of a table, n calls deep -/
def fnN (Δ : Str → Option CDef) : Nat → Fn
  | 0, _, _ => .st
  | n + 1, f, args => match Δ f with
    | some c => runD (fnN Δ n) c args
    | none => .st
end
noncomputable instance oksB : Oks := ⟨fun p _ => okB p⟩
end Wr
namespace L2
open PySem PySem.Spec PyProof.Rows
theorem tuple_mul1W (l : Addr) (items : Array Value) (n : Nat) (dd : Option Addr) (sl : Array (Option Value)) (u : Tok) :
    Meets (Builtin.«tuple.__mul__» ⟨[.ref l, .int 1 u], []⟩) (fun _ R s => s.heap.get? l = some { cls := .type "tuple", dict := dd, data := .seq items n, slots := sl } ∧ R (.ok (.ret (.ref l))) s) :=
  .of_wp fun prog w A R s h => by
    obtain ⟨hp, g, d, tk, os⟩ := s
    obtain ⟨hl, h⟩ := h
    have f1 := AutoSeq1.idx_int
    have c0 : (decide ((1 : Int) < -(2 ^ 63)) || decide ((1 : Int) ≥ 2 ^ 63)) = false := by decide
    have c1 : (items.isEmpty || (1 : Int) == 1) = true := by rw [show ((1 : Int) == 1) = true from rfl, Bool.or_true]
    wp_walk using wpAny_loadPart' hl
    repeat (first
      | (refine wpAny_ite_false (decide_eq_false (by rw [c0]; exact Bool.false_ne_true)) ?_; wp_walk using wpAny_loadPart' hl)
      | (refine wpAny_ite_true (decide_eq_true c1) ?_; wp_walk using wpAny_loadPart' hl))
    exact ⟨_, rfl, h⟩
def rRepT1 (K : PySem.W.Frag) : R2 := fun x y H Q => ∃ l xs, x = .ref l ∧ y = .int 1 ∧ SqT K H l xs ∧ Q (.ref l) H
section
variable {X : Cx}
theorem op_repT1 : OpR X (binaryOp .Mult) (rRepT1 X.K) := by
  intro pins s σ H x y v u Q I rx ry h
  obtain ⟨l, xs, rfl, rfl, hT, q⟩ := h
  cases rx
  obtain ⟨t, rfl⟩ := ry
  obtain ⟨its, r, ⟨⟨cls, dd, data, sl⟩, ho, hc, n, hd⟩, hs⟩ := I.tuple hT
  simp only at hc hd
  subst hc hd
  refine wpAny_binaryOp_repeat_ref (T := "tuple") (U := "int") (by decide) ⟨_, ho, rfl⟩ (fun s' => typeIs_int s' 1 t) noFill_tuple_mul F.fills_int_mul F.slot_int_rmul repeat_tuple F.slot_int_index.lookup
    (call_meets F.slot_int_rmul (typeIs_int s 1 t) F.entry_int_rmul (F.args_int_rmul_2 _ _) (int_rmul_tuple 1 t l its.toArray n dd sl)
      ⟨ho, rfl, ⟨_, ho, rfl⟩, call_meets F.slot_tuple_mul ⟨_, ho, rfl⟩ F.entry_tuple_mul (F.args_tuple_mul_2 _ _) (tuple_mul1W l its.toArray n dd sl t) ⟨ho, ?_⟩⟩)
  exact ⟨.ref l, H, I, rfl, q⟩
end
end L2
namespace L2
open PySem PySem.Spec PyProof.Rows
theorem tuple_mul0W (l : Addr) (items : Array Value) (n : Nat) (dd : Option Addr) (sl : Array (Option Value)) (u : Tok) (hi : items.isEmpty = false) :
    Meets (Builtin.«tuple.__mul__» ⟨[.ref l, .int 0 u], []⟩) (fun _ R s => s.heap.get? l = some { cls := .type "tuple", dict := dd, data := .seq items n, slots := sl } ∧ R (.ok (.ret (Value.ref s.heap.objs.size))) { s with heap := s.heap.push { cls := Value.type "tuple", data := Data.seq #[] }, toks := s.toks }) :=
  .of_wp fun prog w A R s h => by
    obtain ⟨hp, g, d, tk, os⟩ := s
    obtain ⟨hl, h⟩ := h
    have f1 := AutoSeq1.idx_int
    have c0 : (decide ((0 : Int) < -(2 ^ 63)) || decide ((0 : Int) ≥ 2 ^ 63)) = false := by decide
    have c1 : (items.isEmpty || (0 : Int) == 1) = false := by rw [hi]; rfl
    have c2 : (decide ((0 : Int) ≤ 0) || items.isEmpty) = true := by rw [hi]; rfl
    wp_walk using wpAny_loadPart' hl
    repeat (first
      | (refine wpAny_ite_false (decide_eq_false (by rw [c0]; exact Bool.false_ne_true)) ?_; wp_walk using wpAny_loadPart' hl)
      | (refine wpAny_ite_false (decide_eq_false (by rw [c1]; exact Bool.false_ne_true)) ?_; wp_walk using wpAny_loadPart' hl)
      | (refine wpAny_ite_true (decide_eq_true c2) ?_; wp_walk using wpAny_loadPart' hl))
    exact ⟨_, rfl, h⟩
def rRepT0 (K : PySem.W.Frag) : R2 := fun x y H Q => ∃ l xs, x = .ref l ∧ y = .int 0 ∧ SqT K H l xs ∧ xs ≠ [] ∧ ∀ p, H p = none → Q (.ref p) (upd H p (.tup []))
section
variable {X : Cx}
theorem op_repT0 : OpR X (binaryOp .Mult) (rRepT0 X.K) := by
  intro pins s σ H x y v u Q I rx ry h
  obtain ⟨l, xs, rfl, rfl, hT, hne, q⟩ := h
  cases rx
  obtain ⟨t, rfl⟩ := ry
  obtain ⟨its, r, ⟨⟨cls, dd, data, sl⟩, ho, hc, n, hd⟩, hs⟩ := I.tuple hT
  simp only at hc hd
  subst hc hd
  have hi : its.toArray.isEmpty = false := by
    cases r with
    | nil => exact absurd rfl hne
    | cons _ _ => rfl
  refine wpAny_binaryOp_repeat_ref (T := "tuple") (U := "int") (by decide) ⟨_, ho, rfl⟩ (fun s' => typeIs_int s' 0 t) noFill_tuple_mul F.fills_int_mul F.slot_int_rmul repeat_tuple F.slot_int_index.lookup
    (call_meets F.slot_int_rmul (typeIs_int s 0 t) F.entry_int_rmul (F.args_int_rmul_2 _ _) (int_rmul_tuple 0 t l its.toArray n dd sl)
      ⟨ho, rfl, ⟨_, ho, rfl⟩, call_meets F.slot_tuple_mul ⟨_, ho, rfl⟩ F.entry_tuple_mul (F.args_tuple_mul_2 _ _) (tuple_mul0W l its.toArray n dd sl t hi) ⟨ho, ?_⟩⟩)
  refine ⟨.ref s.heap.objs.size, _, I.laid (t' := s.toks) (o := .tup []) (fun b ob q => Heap.get?_push_of_some _ q) (Nat.le_refl _) ?_, rfl, q _ (I.hok.fresh (Nat.le_refl _))⟩
  exact ⟨Nat.zero_le _, [], .nil, IsTup.new _ _⟩
end
end L2
namespace GQ
open PySem PySem.Spec PyProof.Rows
section
variable {prog : Program} {w : World} {A : Around} {E : Value → Shared → Prop}
theorem tuple_eq0 {R : Except Value Flow → Shared → Prop} (l b : Addr) (items : Array Value) (n n2 : Nat) (dd dd2 : Option Addr) (sl sl2 : Array (Option Value)) {s : Shared} (hl1 : s.heap.get? l = some { cls := .type "tuple", dict := dd, data := .seq items n, slots := sl }) (hb1 : s.heap.get? b = some { cls := .type "tuple", dict := dd2, data := .seq #[] n2, slots := sl2 })
    (fin : R (.ok (.ret (.bool (items.size == 0)))) s) :
    wpAny (model prog w) A.in1 (Builtin.«tuple.__eq__» ⟨[.ref l, .ref b], []⟩) (FinOf prog w A R) (fun e s' => R (.error e) s') s := by
  have f2 := AutoSeq1.sub_tuple_tuple
  have hz : items.toList.zip (#[] : Array Value).toList = [] := by simp
  obtain ⟨hp, g, d, tk, os⟩ := s
  wp_walk using wpAny_loadPart' hl1, wpAny_loadPart' hb1, wpAny_forIn_list _ (fun rest b s' => b.1 = none ∧ rest = [] ∧ s' = ⟨hp, g, d, tk, os⟩) _
  case turn =>
    rintro x rest b s' ⟨_, hr, _⟩
    cases hr
  case fin =>
    rintro ⟨b1, b2⟩ s' ⟨hb', _, rfl⟩
    simp only at hb'
    subst hb'
    wp_walk
    exact fin
  case h =>
    exact ⟨rfl, hz, rfl⟩
theorem rc_tup0 {s : Shared} {l b : Addr} {items : Array Value} {Q : Value → Shared → Prop} (hu : A.units < cLine) (hl : s.heap.IsTuple l items) (hb : s.heap.IsTuple b #[]) (h : Q (.bool (items.size == 0)) s) : wpAny (model prog w) A (richCompare .Eq (.ref l) (.ref b)) Q E s := by
  obtain ⟨⟨cls, dd, data, sl⟩, ho, hc, n, hd⟩ := id hl
  obtain ⟨⟨cls2, dd2, data2, sl2⟩, ho2, hc2, n2, hd2⟩ := id hb
  simp only at hc hd hc2 hd2
  subst hc hd hc2 hd2
  refine wpAny_richCompare_same_room (op := .Eq) ⟨_, ho, rfl⟩ ⟨_, ho2, rfl⟩ F.slot_tuple_eq (call_here F.slot_tuple_eq ⟨_, ho, rfl⟩ F.entry_tuple_eq (F.args_tuple_eq_2 _ _) ?_) hu
  exact tuple_eq0 (R := wants (fun v s' => v ≠ .notImplemented ∧ Q v s') E) l b items n n2 dd dd2 sl sl2 ho ho2 ⟨(fun x => nomatch x), h⟩
theorem tuple_ne0 {R : Except Value Flow → Shared → Prop} (l b : Addr) (items : Array Value) (n n2 : Nat) (dd dd2 : Option Addr) (sl sl2 : Array (Option Value)) {s : Shared} (hl1 : s.heap.get? l = some { cls := .type "tuple", dict := dd, data := .seq items n, slots := sl }) (hb1 : s.heap.get? b = some { cls := .type "tuple", dict := dd2, data := .seq #[] n2, slots := sl2 })
    (fin : R (.ok (.ret (.bool (items.size != 0)))) s) :
    wpAny (model prog w) A.in1 (Builtin.«tuple.__ne__» ⟨[.ref l, .ref b], []⟩) (FinOf prog w A R) (fun e s' => R (.error e) s') s := by
  have f2 := AutoSeq1.sub_tuple_tuple
  have hz : items.toList.zip (#[] : Array Value).toList = [] := by simp
  obtain ⟨hp, g, d, tk, os⟩ := s
  wp_walk using wpAny_loadPart' hl1, wpAny_loadPart' hb1, wpAny_forIn_list _ (fun rest b s' => b.1 = none ∧ rest = [] ∧ s' = ⟨hp, g, d, tk, os⟩) _
  case turn =>
    rintro x rest b s' ⟨_, hr, _⟩
    cases hr
  case fin =>
    rintro ⟨b1, b2⟩ s' ⟨hb', _, rfl⟩
    simp only at hb'
    subst hb'
    wp_walk
    exact fin
  case h =>
    exact ⟨rfl, hz, rfl⟩
theorem rc_tupN0 {s : Shared} {l b : Addr} {items : Array Value} {Q : Value → Shared → Prop} (hu : A.units < cLine) (hl : s.heap.IsTuple l items) (hb : s.heap.IsTuple b #[]) (h : Q (.bool (items.size != 0)) s) : wpAny (model prog w) A (richCompare .NotEq (.ref l) (.ref b)) Q E s := by
  obtain ⟨⟨cls, dd, data, sl⟩, ho, hc, n, hd⟩ := id hl
  obtain ⟨⟨cls2, dd2, data2, sl2⟩, ho2, hc2, n2, hd2⟩ := id hb
  simp only at hc hd hc2 hd2
  subst hc hd hc2 hd2
  refine wpAny_richCompare_same_room (op := .NotEq) ⟨_, ho, rfl⟩ ⟨_, ho2, rfl⟩ F.slot_tuple_ne (call_here F.slot_tuple_ne ⟨_, ho, rfl⟩ F.entry_tuple_ne (F.args_tuple_ne_2 _ _) ?_) hu
  exact tuple_ne0 (R := wants (fun v s' => v ≠ .notImplemented ∧ Q v s') E) l b items n n2 dd dd2 sl sl2 ho ho2 ⟨(fun x => nomatch x), h⟩
end
end GQ
namespace L2
open PySem PySem.Spec PyProof.Rows
def rEqT0 (K : PySem.W.Frag) : R2 := fun x y H Q => ∃ a b xs, x = .ref a ∧ y = .ref b ∧ SqT K H a xs ∧ SqT K H b [] ∧ Q (.bl xs.isEmpty) H
theorem op_eqT0 {X : Cx} (hu : X.A.units < cLine) : OpR X (compareOp .Eq) (rEqT0 X.K) := by
  intro pins s σ H x y v u Q I rx ry h
  obtain ⟨a, b, xs, rfl, rfl, hx, hy, q⟩ := h
  cases rx
  cases ry
  obtain ⟨its, r, e, z⟩ := I.tuple hx
  obtain ⟨its2, r2, e2, z2⟩ := I.tuple hy
  cases r2
  show wpAny (model X.prog X.w) X.A (richCompare .Eq (.ref a) (.ref b)) (EP X pins σ Q) X.xe s
  refine GQ.rc_tup0 hu e e2 ⟨.bl xs.isEmpty, H, I, ?_, q⟩
  have hl := r.length
  show _ = Value.bool xs.isEmpty
  cases xs with
  | nil => cases r; rfl
  | cons c cs => cases r; rfl
def rNeT0 (K : PySem.W.Frag) : R2 := fun x y H Q => ∃ a b xs, x = .ref a ∧ y = .ref b ∧ SqT K H a xs ∧ SqT K H b [] ∧ Q (.bl (!xs.isEmpty)) H
theorem op_neT0 {X : Cx} (hu : X.A.units < cLine) : OpR X (compareOp .NotEq) (rNeT0 X.K) := by
  intro pins s σ H x y v u Q I rx ry h
  obtain ⟨a, b, xs, rfl, rfl, hx, hy, q⟩ := h
  cases rx
  cases ry
  obtain ⟨its, r, e, z⟩ := I.tuple hx
  obtain ⟨its2, r2, e2, z2⟩ := I.tuple hy
  cases r2
  show wpAny (model X.prog X.w) X.A (richCompare .NotEq (.ref a) (.ref b)) (EP X pins σ Q) X.xe s
  refine GQ.rc_tupN0 hu e e2 ⟨.bl (!xs.isEmpty), H, I, ?_, q⟩
  have hl := r.length
  show _ = Value.bool (!xs.isEmpty)
  cases xs with
  | nil => cases r; rfl
  | cons c cs => cases r; rfl
end L2
namespace Wr
open PySem PySem.Spec L2
open PyProof.Rows hiding St
/-- an exception as it flies: its class, its dict -/
def XnR (g : Gm) (H : Hp) (O : AP1) (x : Xn) (c : Value) (dx : Option Addr) : Prop :=
  ∃ (C d : Addr) (f : Str) (v : V) (e : D), XcF g x.cls f C ∧ c = .ref C ∧ dx = some d ∧ H d = some (.xd [(f, v)]) ∧ ¬ O d ∧ x.fs = [(f, e)] ∧ RD g H O v e
/-- a step of a frame: from ρ, H, O to ρ', H', O' -/
structure Stp (g : Gm) (σ : St) (ρ : Rho) (H : Hp) (O : AP1) (ρ' : Rho) (H' : Hp) (O' : AP1) : Prop where
  fr : Fr (Wn σ ρ) H O H' O'
  st : StR g H' O' σ ρ'
  sub : ∀ b, Wn σ ρ' b → Wn σ ρ b
  io : ∀ (i : Nat) (d : D), ρ[i]? = some (Sl.io d) → ∃ d' : D, ρ'[i]? = some (Sl.io d')
section
variable {g : Gm} {σ : St} {ρ ρ1 ρ2 : Rho} {H H1 H2 : Hp} {O O1 O2 : AP1}
theorem Stp.refl (S : StR g H O σ ρ) : Stp g σ ρ H O ρ H O := ⟨.refl _ _ _, S, fun _ z => z, fun _ d e => ⟨d, e⟩⟩
theorem Stp.trans (p : Stp g σ ρ H O ρ1 H1 O1) (q : Stp g σ ρ1 H1 O1 ρ2 H2 O2) : Stp g σ ρ H O ρ2 H2 O2 :=
  ⟨p.fr.trans q.fr p.sub, q.st, fun b z => p.sub b (q.sub b z), fun i d e => let ⟨_, e1⟩ := p.io i d e; q.io i _ e1⟩
theorem Stp.rd (p : Stp g σ ρ H O ρ1 H1 O1) (S : StR g H O σ ρ) {v : V} {d : D} (h : RD g H O v d) : RD g H1 O1 v d := h.fr p.fr S.wn
theorem Stp.rds (p : Stp g σ ρ H O ρ1 H1 O1) (S : StR g H O σ ρ) {v : List V} {d : List D} (h : RDs g H O v d) : RDs g H1 O1 v d := h.fr p.fr S.wn
/-- a result's value behind a step from H -/
def RsR (g : Gm) (H : Hp) (σ : St) (ρ' : Rho) (H' : Hp) (O' : AP1) (v : V) : Rs → Prop
  | .sh d => RD g H' O' v d
  | .fr d => ∃ a, v = .ref a ∧ H a = none ∧ O' a ∧ ¬ Wn σ ρ' a ∧ Ob g H' O' a d
/-- a fresh object becomes a shared one -/
theorem RsR.share {v : V} {r : Rs} (S : StR g H O σ ρ) (p : Stp g σ ρ H O ρ1 H1 O1) (h : RsR g H σ ρ1 H1 O1 v r) : ∃ O2, Stp g σ ρ H O ρ1 H1 O2 ∧ RD g H1 O2 v r.d := by
  cases r with
  | sh d => exact ⟨O1, p, h⟩
  | fr d =>
    obtain ⟨a, rfl, na, oa, nw, ob⟩ := h
    have sub : ∀ b, (O1 b ∧ b ≠ a) → O1 b := fun _ z => z.1
    refine ⟨fun b => O1 b ∧ b ≠ a, ⟨⟨p.fr.kp, p.fr.tb, p.fr.there, fun b z n => ⟨p.fr.o1 b z n, fun e => ?_⟩, fun b z => p.fr.o2 b z.1⟩, p.st.anti sub fun b z => ⟨p.st.wn b z, fun e => nw (e ▸ z)⟩, p.sub, p.io⟩, ?_⟩
    · subst e
      exact S.obj b z na
    · exact (ob.anti sub).sh fun z => z.2 rfl
/-- what is asked of a step's outcome -/
def RW (W : WX) (g : Gm) (σ : St) (ρ : Rho) (H : Hp) (O : AP1) {α : Type} (r : Re α) (K : α → Rho → Prop) : Prop := match r with
  | .ok a ρ' => K a ρ'
  | .ex x ρ' => ∀ c dx H' O', Stp g σ ρ H O ρ' H' O' → XnR g H' O' x c dx → W c dx σ H'
  | .st => False
variable {W : WX} {α β : Type}
theorem RW.imp {r : Re α} {K K' : α → Rho → Prop} (h : RW W g σ ρ H O r K) (f : ∀ a ρ', K a ρ' → K' a ρ') : RW W g σ ρ H O r K' := by
  cases r with
  | ok a ρ' => exact f a ρ' h
  | ex x ρ' => exact h
  | st => exact h
theorem RW.bd {r : Re α} {f : α → Rho → Re β} {K : β → Rho → Prop} (h : RW W g σ ρ H O (r.bd f) K) : RW W g σ ρ H O r fun a ρ' => RW W g σ ρ H O (f a ρ') K := by
  cases r with
  | ok a ρ' => exact h
  | ex x ρ' => exact h
  | st => exact h
theorem RW.rebase {r : Re α} {K : α → Rho → Prop} (p : Stp g σ ρ H O ρ1 H1 O1) (h : RW W g σ ρ H O r K) : RW W g σ ρ1 H1 O1 r K := by
  cases r with
  | ok a ρ' => exact h
  | ex x ρ' => exact fun c dx H' O' s x' => h c dx H' O' (p.trans s) x'
  | st => exact h
theorem RW.okE {a : α} {K : α → Rho → Prop} (h : RW W g σ ρ H O (.ok a ρ1) K) : K a ρ1 := h
theorem RW.of {o : Option α} {K : α → Rho → Prop} (h : RW W g σ ρ H O (Re.of o ρ1) K) : ∃ a, o = some a ∧ K a ρ1 := by
  cases o with
  | some a => exact ⟨a, rfl, h⟩
  | none => exact h.elim
end
/-- v, H', O': a result made from H, O without any slot -/
inductive Nw (g : Gm) (H : Hp) (O : AP1) : Rs → V → Hp → AP1 → Prop where
  | same {v : V} {d : D} : RD g H O v d → Nw g H O (.sh d) v H O
  | laid {p : Addr} {o : HO} {d : D} : H p = none → RD g (upd H p o) O (.ref p) d → Nw g H O (.sh d) (.ref p) (upd H p o) O
  | own {p : Addr} {o : HO} {d : D} : H p = none → Ob g (upd H p o) (fun b => O b ∨ b = p) p d → Nw g H O (.fr d) (.ref p) (upd H p o) (fun b => O b ∨ b = p)
section
variable {g : Gm} {σ : St} {ρ : Rho} {H H1 : Hp} {O O1 : AP1} {r : Rs} {v : V}
theorem Nw.stp (n : Nw g H O r v H1 O1) (S : StR g H O σ ρ) : Stp g σ ρ H O ρ H1 O1 ∧ RsR g H σ ρ H1 O1 v r := by
  cases n with
  | same h => exact ⟨.refl S, h⟩
  | laid n h => exact ⟨⟨Fr.laid n, S.laid n, fun _ z => z, fun _ d e => ⟨d, e⟩⟩, h⟩
  | own n h => exact ⟨⟨Fr.laidO n, S.laidO n, fun _ z => z, fun _ d e => ⟨d, e⟩⟩, _, rfl, n, .inr rfl, fun z => S.obj _ (S.wn _ z) n, h⟩
end
/-- what the making of r wants -/
def Mk1 (g : Gm) (H : Hp) (O : AP1) (r : Rs) (Q : VK) : Prop := ∀ v H' O', Nw g H O r v H' O' → Q v H'
section
variable {g : Gm} {H : Hp} {O : AP1} {Q : VK}
theorem Mk1.int {i : Int} (h : Mk1 g H O (.sh (.int i)) Q) : Q (.int i) H := h _ _ _ (.same (.int i))
theorem Mk1.bl {b : Bool} (h : Mk1 g H O (.sh (.bl b)) Q) : Q (.bl b) H := h _ _ _ (.same (.bl b))
theorem Mk1.str {x : Str} (h : Mk1 g H O (.sh (.str x)) Q) : Q (.str x) H := h _ _ _ (.same (.str x))
theorem up_fr {p : Addr} {o : HO} (n : H p = none) : Fr (fun _ => False) H O (upd H p o) O := Fr.laid n
theorem Mk1.tup {ds : List D} {vs : List V} (ob : ∀ b, O b → H b ≠ none) (hs : RDs g H O vs ds) (h : Mk1 g H O (.sh (.tup ds)) Q) : ∀ p, H p = none → Q (.ref p) (upd H p (.tup vs)) := fun p n =>
  h _ _ _ (.laid n (.tup (.inl ⟨upd_same, fun z => ob p z n⟩) (hs.fr (up_fr n) fun _ z => z.elim)))
theorem Mk1.lstS {ds : List D} {vs : List V} (ob : ∀ b, O b → H b ≠ none) (hs : RDs g H O vs ds) (h : Mk1 g H O (.sh (.lst ds)) Q) : ∀ p, H p = none → Q (.ref p) (upd H p (.lst vs)) := fun p n =>
  h _ _ _ (.laid n (.lst (.inl ⟨.inl upd_same, fun z => ob p z n⟩) (hs.fr (up_fr n) fun _ z => z.elim)))
theorem Mk1.lst {ds : List D} {vs : List V} (hs : RDs g H O vs ds) (h : Mk1 g H O (.fr (.lst ds)) Q) : ∀ p, H p = none → Q (.ref p) (upd H p (.lst vs)) := fun p n =>
  h _ _ _ (.own n (.lst upd_same (hs.fr (Fr.laidO (W := fun _ => False) n) fun _ z => z.elim)))
end
section
variable {g : Gm} {H : Hp} {O : AP1} {Q : VK}
theorem Mk1.dct {ds : List (Key × D)} {vs : List (Key × V)} (hs : RDk g H O vs ds) (h : Mk1 g H O (.fr (.dct ds)) Q) : ∀ p, H p = none → Q (.ref p) (upd H p (.dK vs)) := fun p n =>
  h _ _ _ (.own n (.dct upd_same (hs.fr (Fr.laidO (W := fun _ => False) n) fun _ z => z.elim)))
end
theorem sizeL_eq : sizeL = sizeLine := by rw [sizeLine_eq]; rfl
section
variable {X : Cx} {g : Gm}
theorem rdL {pins : List (Addr × Obj)} {σ : St} {H : Hp} {s : Shared} {l : Addr} {xs : List V} (I : Inv X pins σ H s) (h : LsK X.K H l xs) :
    xs.length ≤ sizeLine ∧ ∃ (its : List Value) (n : Nat), Vals xs its ∧ s.heap.get? l = some { cls := .type "list", data := .seq its.toArray n } := by
  rcases h with h | ⟨its, n, e, z, r⟩
  · exact h.ok I.hok
  · exact ⟨by rw [r.length]; exact z, its, n, r, I.kIn _ _ e⟩
theorem opr_cat : OpR X (binaryOp .Add) (fun x y H Q => ∃ l b xs zs, x = .ref l ∧ y = .ref b ∧ LsK X.K H l xs ∧ LsK X.K H b zs ∧ xs.length + zs.length ≤ sizeLine ∧ ∀ p, H p = none → Q (.ref p) (upd H p (.lst (xs ++ zs)))) := by
  intro pins s σ H x y v u Q I rx ry h
  obtain ⟨l, b, xs, zs, rfl, rfl, hH, hB, hz, q⟩ := h
  cases rx
  cases ry
  obtain ⟨_, is1, n1, r1, e1⟩ := rdL I hH
  obtain ⟨_, is2, n2, r2, e2⟩ := rdL I hB
  have w1 := r1.length
  have w2 := r2.length
  refine PySem.P.add_list e1 e2 ?_ (by simp only [List.size_toArray]; omega)
  rw [show is1.toArray ++ is2.toArray = (is1 ++ is2).toArray by simp]
  exact ⟨.ref _, _, I.lnew (t' := s.toks) (r1.append r2) (by simp only [List.length_append]; omega), rfl, q _ I.fresh⟩
theorem opr_rep : OpR X (binaryOp .Mult) (fun x y H Q => ∃ l k xs, x = .ref l ∧ y = .int k ∧ LsK X.K H l xs ∧ -(2 ^ 63) ≤ k ∧ k < 2 ^ 63 ∧ xs.length * k.toNat ≤ sizeLine ∧
    ∀ p, H p = none → Q (.ref p) (upd H p (.lst (List.replicate k.toNat xs).flatten))) := by
  intro pins s σ H x y v u Q I rx ry h
  obtain ⟨l, k, xs, rfl, rfl, hH, h1, h2, hz, q⟩ := h
  cases rx
  obtain ⟨t, rfl⟩ := ry
  obtain ⟨_, is, n, r, e⟩ := rdL I hH
  have w := r.length
  have wz : is.toArray.size * k.toNat ≤ sizeLine := by simp only [List.size_toArray]; rw [← w]; exact hz
  have c1 : ¬ (!Builtin.List.listFitsIndex k) = true := by rw [fitsIndex_both h1 h2]; decide
  have c2 : ¬ is.toArray.size * k.toNat > (2 ^ 63 - 1) / 8 := by
    have z : (sizeLine : Nat) ≤ (2 ^ 63 - 1) / 8 := by decide
    omega
  have c3 : ¬ Builtin.List.listTooLong (is.toArray.size * k.toNat) = true := by rw [notLongL wz]; decide
  have out : List.foldl (fun a b => a ++ b) #[] (List.replicate (if is.toArray.isEmpty = true then 0 else k.toNat) is.toArray) = (List.replicate k.toNat is).flatten.toArray := by
    have z := fun m : Nat => foldl_rep is m []
    simp only [List.nil_append] at z
    cases is with
    | nil => rw [z]; simp
    | cons a b => rw [if_neg (by simp)]; exact z _
  refine wpAny_binaryOp_repeat_ref (T := "list") (U := "int") (by decide) ⟨_, e, rfl⟩ (fun s' => typeIs_int s' k t) noFill_list_mul F.fills_int_mul F.slot_int_rmul repeat_list F.slot_int_index.lookup ?_
  refine call_meets F.slot_int_rmul (typeIs_int s k t) F.entry_int_rmul (F.args_int_rmul_2 _ _) (int___rmul___int_list k t l is.toArray n) ⟨e, rfl, ⟨_, e, rfl⟩, ?_⟩
  refine call_meets F.slot_list_mul ⟨_, e, rfl⟩ F.entry_list_mul (F.args_list_mul_2 _ _) (AutoListH.list___mul___list_int_3 l is.toArray n k t c1 c2 c3) ⟨e, ?_⟩
  rw [out]
  exact ⟨.ref _, _, I.lnew (t' := s.toks) (r.rep k.toNat) (by rw [PyProof.Rows.lm_len_rep_flat, Nat.mul_comm]; exact hz), rfl, q _ I.fresh⟩
theorem rep_none (k : Nat) : (List.replicate k (#[] : Array Nat)).foldl (· ++ ·) #[] = #[] := by
  induction k with
  | zero => rfl
  | succ k ih => rw [List.replicate_succ, List.foldl_cons, Array.append_empty]; exact ih
theorem rep_size (xs : Array Nat) : ∀ (k : Nat) (acc : Array Nat), ((List.replicate k xs).foldl (· ++ ·) acc).size = acc.size + xs.size * k
  | 0, acc => rfl
  | k + 1, acc => by
    rw [List.replicate_succ, List.foldl_cons, rep_size xs k, Array.size_append, Nat.mul_succ]
    omega
/-- a text times a number -/
theorem opr_repS {x : Str} {k : Int} {pins : List (Addr × Obj)} {σ : St} {H : Hp} {s : Shared} {v u : Value} {Q : VK} {E : Value → Shared → Prop} (I : Inv X pins σ H s) (rx : RelV (.str x) v) (ry : RelV (.int k) u)
    (h1 : k < 1000000) (h2 : -1000000 < k) (h3 : x.length ≤ 16) (h4 : x.length * k.toNat ≤ 1000000) (q : Q (.str ⟨(List.replicate k.toNat x.cps).foldl (· ++ ·) #[]⟩) H) : wpAny (model X.prog X.w) X.A (binaryOp .Mult v u) (EP X pins σ Q) E s := by
  obtain ⟨t, rfl⟩ := rx
  obtain ⟨t', rfl⟩ := ry
  refine PySem.P.mul_str (by
      have e1 : decide (k < -(2 ^ 63 : Int)) = false := decide_eq_false (by omega)
      have e2 : decide (k ≥ 2 ^ 63) = false := decide_eq_false (by omega)
      rw [e1, e2]
      rfl) (fun n1 _ => ?_) (fun _ _ => ?_) ?_
  · have hk : 1 ≤ k := by omega
    have : (1000000 : Int) ≤ (2 ^ 63 - 1) / k := by
      rw [Int.le_ediv_iff_mul_le (by omega)]
      omega
    omega
  · unfold Builtin.Str.tooLong
    exact decide_eq_false (by rw [sizeLine_eq]; omega)
  · split
    · rename_i hk
      have e : k.toNat = 0 := by omega
      rw [e] at q
      exact ⟨by decide, .str _, H, I.tok _, ⟨_, rfl⟩, q⟩
    · split
      · rename_i hk hc
        have e : (⟨(List.replicate k.toNat x.cps).foldl (· ++ ·) #[]⟩ : Str) = x := by
          rcases Bool.or_eq_true_iff.mp hc with z | z
          · have z2 : k = 1 := by simpa using z
            subst z2
            show (⟨#[] ++ x.cps⟩ : Str) = x
            rw [Array.empty_append]
          · have z2 : x.cps = #[] := Array.eq_empty_of_size_eq_zero (by simpa [Str.length] using z)
            rw [z2, rep_none]
            cases x
            cases z2
            rfl
        rw [e] at q
        exact ⟨.str _, H, I, ⟨_, rfl⟩, q⟩
      · refine ⟨?_, .str _, H, I.tok _, ⟨_, rfl⟩, q⟩
        show ((List.replicate k.toNat x.cps).foldl (· ++ ·) #[]).size ≤ _
        rw [rep_size, sizeLine_eq]
        have : x.cps.size * k.toNat ≤ 1000000 := h4
        have h0 : (#[] : Array Nat).size = 0 := rfl
        rw [h0]
        omega
/-- an operation on two values, by data -/
def rD2 (g : Gm) (k : D → D → Option Rs) : R2 := fun x y H Q => ∃ O d e r, (∀ b, O b → H b ≠ none) ∧ RB g H O x d ∧ RB g H O y e ∧ k d e = some r ∧ Mk1 g H O r Q
theorem opr_bin (hK : X.K = g.K) (op : Operator) : OpR X (binaryOp op) (rD2 g (binop op)) := by
  intro pins s σ H x y v u Q I rx ry h
  obtain ⟨O, d, e, r, ob, hx, hy, hk, q⟩ := h
  unfold binop at hk
  split at hk
  · cases hx.getI; cases hy.getI; cases hk; exact op_add pins s σ H _ _ v u Q I rx ry ⟨_, _, rfl, rfl, q.int⟩
  · cases hx.getI; cases hy.getI; cases hk; exact op_sub pins s σ H _ _ v u Q I rx ry ⟨_, _, rfl, rfl, q.int⟩
  · split at hk
    · rename_i hc
      replace hc := of_okB hc
      cases hx.getI; cases hy.getI; cases hk; exact op_mulW pins s σ H _ _ v u Q I rx ry ⟨_, _, rfl, rfl, hc, q.int⟩
    · cases hk
  · split at hk
    · rename_i hc
      replace hc := of_okB hc
      cases hx.getI; cases hy.getI; cases hk; exact op_fdivW pins s σ H _ _ v u Q I rx ry ⟨_, _, rfl, rfl, hc, q.int⟩
    · cases hk
  · split at hk
    · rename_i hc
      cases hx.getI; cases hy.getI; cases hk; exact op_mod pins s σ H _ _ v u Q I rx ry ⟨_, _, rfl, rfl, hc, q.int⟩
    · cases hk
  · split at hk
    · rename_i i j hc
      obtain ⟨h1, h2, h3, h4⟩ := of_okB hc
      cases hx.getI; cases hy.getI; cases hk
      obtain ⟨t, rfl⟩ := rx
      obtain ⟨t', rfl⟩ := ry
      have hb : Builtin.Int.intBits i ≤ 10000 := by
        unfold Builtin.Int.intBits
        split <;> omega
      have ht : ¬ Builtin.Int.intTooBig (((Builtin.Int.intBits i : Nat) : Int) * j) = true := by
        intro z
        unfold Builtin.Int.intTooBig at z
        have z3 := of_decide_eq_true z
        rw [show bitsLine = 134217728 by decide] at z3
        have : ((Builtin.Int.intBits i : Nat) : Int) * j ≤ 10000 * 1000 := Int.mul_le_mul (by omega) h3 h2 (by omega)
        omega
      by_cases hj : j = 0
      · subst hj
        exact PySem.AutoIntOps.pow_0 (by decide) (by decide) ⟨.int _, H, I.tok _, ⟨_, rfl⟩, by simpa using q.int⟩
      · exact PySem.AutoIntOps.pow_4 h2 (by simpa using hj) (by simp; omega) (by simp; omega) ht ⟨.int _, H, I.tok _, ⟨_, rfl⟩, q.int⟩
    · cases hk
  · split at hk
    · rename_i hc
      obtain ⟨h1, h2, h3⟩ := of_okB hc
      cases hx.getI; cases hy.getI; cases hk
      refine op_shlW pins s σ H _ _ v u Q I rx ry ⟨_, _, rfl, rfl, ⟨h1, ?_⟩, q.int⟩
      unfold Builtin.Int.intBits
      split <;> omega
    · cases hk
  · split at hk
    · rename_i hc
      cases hx.getI; cases hy.getI; cases hk; exact op_shr pins s σ H _ _ v u Q I rx ry ⟨_, _, rfl, rfl, hc, q.int⟩
    · cases hk
  · cases hx.getI; cases hy.getI; cases hk; exact op_and pins s σ H _ _ v u Q I rx ry ⟨_, _, rfl, rfl, q.int⟩
  · cases hx.getI; cases hy.getI; cases hk; exact op_or pins s σ H _ _ v u Q I rx ry ⟨_, _, rfl, rfl, q.int⟩
  · cases hx.getI; cases hy.getI; cases hk; exact op_xor pins s σ H _ _ v u Q I rx ry ⟨_, _, rfl, rfl, q.int⟩
  · split at hk
    · rename_i hc
      obtain ⟨a, xs, rfl, hX, hxs⟩ := hx.getL
      obtain ⟨b, ys, rfl, hY, hys⟩ := hy.getL
      cases hk
      rw [← hK] at hX hY
      exact opr_cat pins s σ H _ _ v u Q I rx ry ⟨a, b, xs, ys, rfl, rfl, hX, hY, by rw [hxs.len, hys.len, ← sizeL_eq]; exact hc, q.lst (hxs.append hys)⟩
    · cases hk
  · split at hk
    · rename_i hc
      obtain ⟨a, xs, rfl, hX, hxs⟩ := hx.getT
      obtain ⟨b, ys, rfl, hY, hys⟩ := hy.getT
      cases hk
      rw [← hK] at hX hY
      refine op_catA pins s σ H _ _ v u Q I rx ry ⟨a, b, xs, ys, rfl, rfl, hX, hY, by rw [hxs.len, hys.len, ← sizeL_eq]; exact hc, fun e => ?_, fun _ e => ?_, fun _ _ => q.tup ob (hxs.append hys)⟩
      · subst e
        cases hxs
        exact q _ _ _ (.same hy.tupSh)
      · subst e
        cases hys
        rw [List.append_nil] at q
        exact q _ _ _ (.same hx.tupSh)
    · cases hk
  · split at hk
    · rename_i hc
      cases hx.getS; cases hy.getS; cases hk; exact op_add_str pins s σ H _ _ v u Q I rx ry ⟨_, _, rfl, rfl, by rw [← sizeL_eq]; exact hc, q.str⟩
    · cases hk
  · split at hk
    · rename_i hc
      obtain ⟨h1, h2, h3⟩ := hc
      obtain ⟨a, xs, rfl, hX, hxs⟩ := hx.getL
      cases hy.getI
      cases hk
      rw [← hK] at hX
      exact opr_rep pins s σ H _ _ v u Q I rx ry ⟨a, _, xs, rfl, rfl, hX, by omega, by omega, by rw [hxs.len, ← sizeL_eq]; exact h3, q.lst (hxs.rep _)⟩
    · cases hk
  · cases hx.getB; cases hy.getI; cases hk
    cases rx
    obtain ⟨t, rfl⟩ := ry
    exact PySem.IntBool.add_bool_int ⟨.int _, H, I.tok _, ⟨_, rfl⟩, q.int⟩
  · cases hx.getB; cases hy.getI; cases hk
    cases rx
    obtain ⟨t, rfl⟩ := ry
    exact PySem.IntBool.sub_bool_int ⟨.int _, H, I.tok _, ⟨_, rfl⟩, q.int⟩
  · cases hx.getI; cases hy.getB; cases hk
    cases ry
    obtain ⟨t, rfl⟩ := rx
    exact PySem.IntBool.sub_int_bool ⟨.int _, H, I.tok _, ⟨_, rfl⟩, q.int⟩
  · split at hk
    · rename_i hc
      obtain ⟨h1, h2, h3, h4⟩ := hc
      cases hx.getS
      cases hy.getI
      cases hk
      exact opr_repS I rx ry (by omega) (by omega) h3 h4 q.str
    · cases hk
  · split at hk
    · rename_i hc
      obtain ⟨h0, h1, h2, h3⟩ := hc
      obtain ⟨a, xs, rfl, hX, hxs⟩ := hx.getT
      cases hy.getI
      cases hk
      rw [← hK] at hX
      refine op_repT pins s σ H _ _ v u Q I rx ry ⟨a, _, xs, rfl, rfl, hX, fun e => ?_, h1, h2, by rw [hxs.len]; exact h3, q.tup ob (hxs.rep _)⟩
      subst e
      cases hxs
      cases h0
    · split at hk
      · rename_i hc
        subst hc
        have hd := hx.tupSh
        obtain ⟨a, xs, rfl, hX, hxs⟩ := hx.getT
        cases hy.getI
        cases hk
        rw [← hK] at hX
        exact op_repT1 pins s σ H _ _ v u Q I rx ry ⟨a, xs, rfl, rfl, hX, q _ _ _ (.same hd)⟩
      · split at hk
        · rename_i hc
          obtain ⟨hc, h0⟩ := hc
          subst hc
          obtain ⟨a, xs, rfl, hX, hxs⟩ := hx.getT
          cases hy.getI
          cases hk
          rw [← hK] at hX
          refine op_repT0 pins s σ H _ _ v u Q I rx ry ⟨a, xs, rfl, rfl, hX, fun e => ?_, q.tup ob .nil⟩
          subst e
          cases hxs
          cases h0
        · cases hk
  · cases hk
end
end Wr
namespace Wr
open PySem PySem.Spec L2
open PyProof.Rows hiding St
theorem pairs_K {prog : Program} {w : World} : ∀ {es : List DictEntry} {ks : List Str}, es.map kNm = ks.map some → Pairs (strKind prog w) es (List.zipWith (fun x (e : DictEntry) => (x, e.val)) ks es) ∧ (List.zipWith (fun x (e : DictEntry) => (x, e.val)) ks es).map (·.1) = ks
  | [], [], _ => ⟨.nil, rfl⟩
  | [], _ :: _, h => by simp at h
  | _ :: _, [], h => by simp at h
  | e :: es, x :: ks, h => by
    rw [List.map_cons, List.map_cons] at h
    injection h with h1 h2
    obtain ⟨t, et⟩ := kNm_eq h1
    obtain ⟨p1, p2⟩ := pairs_K (prog := prog) (w := w) h2
    refine ⟨.cons ?_ rfl p1, ?_⟩
    · rw [et]
      exact strKind_is prog w x t
    · rw [List.zipWith_cons_cons, List.map_cons, p2]
theorem dictAt_K {prog : Program} {w : World} {K : PySem.W.Frag} {h : Heap} {a : Addr} {es : Array DictEntry} {n : Nat} {ks : List Str} (I : K.In h) (D : KDict K w a es n) (q : es.toList.map kNm = ks.map some) (nd : ks.Nodup) :
    h.DictAt (strKind prog w) a (List.zipWith (fun x (e : DictEntry) => (x, e.val)) ks es.toList) n := by
  obtain ⟨p1, p2⟩ := pairs_K (prog := prog) (w := w) q
  exact ⟨_, es, I _ _ D.1, ⟨rfl, rfl, rfl⟩, rfl, fun e he => by
    obtain ⟨x, t, e1, e2⟩ := D.2.all e (Array.mem_toList_iff.mpr he)
    exact ⟨x, by rw [e1]; exact strKind_is prog w x t, e2⟩, p1, by rw [p2]; exact nd⟩
theorem cr_sortedK {X : Cx} {d : Addr} {es : Array DictEntry} {n : Nat} {ks : List Str} (hcalm : X.calm = true) (D : KDict X.K X.w d es n) (hq : es.toList.map kNm = ks.map some) (nd : ks.Nodup) (h64 : ks.length < 64) :
    CallR X (.builtin "sorted") (fun xs H Q => xs = [.ref d] ∧ ∀ ys p, ys.Perm ks → sortedS ys = true → H p = none → Q (.ref p) (upd H p (.lst (ys.map V.str)))) := by
  intro pins s σ H xs us Q I r q
  obtain ⟨ex, q⟩ := q
  subst ex
  obtain ⟨u, eu, rx⟩ := vals1 r
  subst eu
  cases rx
  have hat := dictAt_K (prog := X.prog) I.kIn D hq nd
  have hkeys := (pairs_K (prog := X.prog) (w := X.w) hq).2
  generalize List.zipWith (fun x (e : DictEntry) => (x, e.val)) ks es.toList = vs at hat hkeys
  have hl : vs.length = ks.length := by
    have e := congrArg List.length hkeys
    rwa [List.length_map] at e
  have h16 : vs.length ≤ sizeLine := by rw [hl, sizeLine_eq]; omega
  refine Calls.call_function_entry PyProof.Rows.kind_sorted PyProof.Rows.plain_sorted PyProof.Rows.entry_sorted (PyProof.Rows.args_sorted1 _) ?_
  unfold Builtin.«sorted»
  refine wpAny_bind (m := checkCount "sorted" 1 1 _) (wpAny_pure ?_)
  refine wpAny_bind (PySem.W.kdu_collect (A := X.A.in1) (PySem.W.kdl_dict (knd := strKind X.prog X.w) (kvs := vs) (ep := n) D.3) (I.ok.hd hcalm) hat h16 fun h' tk acc hk hacc => ?_)
  have hal : acc.toList.length = ks.length := by rw [Array.length_toList, hacc.1, hl]
  have hS : StrsAre acc.toList ks := strs_at hal fun j v e => by
    obtain ⟨k, x, e1, e2⟩ := hacc.2 j v (by rw [← Array.getElem?_toList]; exact e)
    have e3 : (vs.map (·.1))[j]? = some k := by rw [List.getElem?_map, e1]; all_goals rfl
    rw [hkeys] at e3
    obtain ⟨t, ev⟩ := Value.isStrOf_shape (x := k) (v := v) e2
    exact ⟨k, t, e3, ev⟩
  have I1 : Inv X pins σ H { s with heap := h', toks := tk } := I.kept hk
  refine wpAny_bind (wpAny_newList ?_ (by rw [hal, sizeLine_eq]; omega))
  have hoL : (h'.push (seqObj "list" acc.toList.toArray 0)).get? h'.objs.size = some (seqObj "list" acc.toList.toArray 0) := Heap.get?_push_size _ rfl
  show wpAny _ _ _ _ _ { s with heap := h'.push (seqObj "list" acc.toList.toArray 0), toks := tk }
  refine wpAny_bind (wpAny_holding (wpAny_call_entry PyProof.Rows.slot_list_sort ⟨_, hoL, rfl⟩ PyProof.Rows.entry_list_sort
    (list_sort_treeK strKind_oneLt (s := { s with heap := h'.push (seqObj "list" acc.toList.toArray 0), toks := tk }) hoL hS.keysOf (fun v₁ v₂ rest e => keyKind_strs (by rw [← e]; exact hS)) (by rw [hal]; exact h64) fun st' hp hs => ⟨_, rfl, ?_⟩)
    (PyProof.Rows.args_list_sort _)))
  obtain ⟨ys, g1, g2, g3⟩ := sorted_out_str hS hp hs
  obtain ⟨e', he'⟩ := PyProof.Rows.sortedHeap_at (vs := acc.toList) (out := (arrOf st').map (·.2)) hoL
  have hlen : (ys.map V.str).length ≤ sizeLine := by
    rw [List.length_map, g2.length_eq]
    exact Nat.le_trans (Nat.le_of_lt h64) (by decide)
  refine wpAny_pure ⟨_, rfl, .ref h'.objs.size, upd H h'.objs.size (.lst (ys.map V.str)), I1.laid (t' := tk) (fun b u e => ?_) (Nat.le_refl _)
    (show ObjOk X.prog X.w _ _ _ (.lst (ys.map V.str)) from ⟨hlen, ((arrOf st').map (·.2)).toList, e', vals_of_strs g1, by rw [Array.toArray_toList]; exact he'⟩), rfl, q ys _ g2 g3 (I1.hok.fresh (Nat.le_refl _))⟩
  have hb : b < h'.objs.size := Heap.lt_size e
  rw [PyProof.Rows.sortedHeap_old (Nat.ne_of_lt hb) (by rw [size_push']; exact Nat.lt_succ_of_lt hb)]
  exact Heap.get?_push_of_some _ e
end Wr
namespace Wr
open PySem PySem.Spec L2 PyProof.Rows
theorem noDict_dp {K : PySem.W.Frag} {H : Hp} : ∀ {v : V} {p : PyData}, Dp K H v p → p.hasDict = false := by
  intro v p h
  exact Dp.rec (motive_1 := fun _ p _ => p.hasDict = false) (motive_2 := fun _ ps _ => PyData.hasDictAll ps = false) rfl (fun _ => rfl) (fun _ => rfl) (fun _ => rfl)
    (fun _ _ ih => by simp only [PyData.hasDict]; exact ih) (fun _ _ ih => by simp only [PyData.hasDict]; exact ih) (by simp only [PyData.hasDictAll]) (fun _ _ h1 h2 => by simp only [PyData.hasDictAll, h1, h2, Bool.or_self]) h
mutual
/-- a value is this data; a dict in it is empty -/
inductive Dq (K : PySem.W.Frag) (H : Hp) : V → PyData → Prop
  | leaf {v : V} {d : PyData} : Dp K H v d → Dq K H v d
  | dct {a : Addr} : H a = some (.dK []) → Dq K H (.ref a) (.dict [])
  | dct1 {a : Addr} {x : Str} {v : V} {d : PyData} : H a = some (.dK [(.inr x, v)]) → Dq K H v d → Dq K H (.ref a) (.dict [(.str x, d)])
  | lst {a : Addr} {xs : List V} {ds : List PyData} : SqL K H a xs → DqAll K H xs ds → Dq K H (.ref a) (.list ds)
  | tup {a : Addr} {xs : List V} {ds : List PyData} : SqT K H a xs → DqAll K H xs ds → Dq K H (.ref a) (.tuple ds)
inductive DqAll (K : PySem.W.Frag) (H : Hp) : List V → List PyData → Prop
  | nil : DqAll K H [] []
  | cons {v : V} {vs : List V} {d : PyData} {ds : List PyData} : Dq K H v d → DqAll K H vs ds → DqAll K H (v :: vs) (d :: ds)
end
section
variable {X : Cx} {pins : List (Addr × Obj)} {σ : L2.St} {H : Hp} {s : Shared}
/-- read, and shown -/
structure Shown (X : Cx) (s : Shared) (u : Value) (d : PyData) (as bs : List Addr) : Prop where
  rd : Reads s.heap u d as
  am : ReadAtMost s.heap d.depth bs
  rk : ReprK X.prog X.w bs s.heap d.depth u d.shown
structure ShownAll (X : Cx) (s : Shared) (us : List Value) (ds : List PyData) (as bs : List Addr) : Prop where
  rd : ReadsAll s.heap us ds as
  am : ReadAtMost s.heap (PyData.depthAll ds) bs
  rk : ReprAllK X.prog X.w bs s.heap (PyData.depthAll ds) us (PyData.shownAll ds)
theorem empty_at (I : Inv X pins σ H s) {a : Addr} (e : H a = some (.dK [])) : ∃ o n, s.heap.get? a = some o ∧ o.cls = .type "dict" ∧ o.data = .dict #[] n ∧ (a == sysModules) = false := by
  obtain ⟨_, hsys, vs, rel, o, es, n, ho, hx, hd, _, ps, _⟩ := dk_of I.hok e
  cases rel
  have e0 : es = #[] := by
    cases es with
    | mk l => cases l with
      | nil => rfl
      | cons x l => cases ps
  subst e0
  exact ⟨o, n, ho, hx.1, hd, hsys⟩
theorem one_at (I : Inv X pins σ H s) {a : Addr} {x : Str} {v : V} (e : H a = some (.dK [(.inr x, v)])) : ∃ o n en t, s.heap.get? a = some o ∧ o.cls = .type "dict" ∧ o.data = .dict #[en] n ∧ (a == sysModules) = false ∧ en.key = .str x t ∧ RelV v en.val := by
  obtain ⟨_, hsys, vs, rel, o, es, n, ho, hx, hd, _, ps, _⟩ := dk_of I.hok e
  unfold KV at rel
  cases rel with
  | cons h r =>
    cases r
    cases es with
    | mk l =>
      cases ps with
      | cons hk hv r2 =>
        cases r2
        obtain ⟨h1, h2⟩ := h
        rw [← h1] at hk
        have hk : keyIs (.inr x) _ = true := hk
        obtain ⟨t, q⟩ := Value.isStrOf_shape hk
        exact ⟨o, n, _, t, ho, hx.1, hd, hsys, q, by rw [hv]; exact h2⟩
theorem shown_list {a : Addr} {o : Obj} {l : List Value} {n : Nat} {ds : List PyData} {as bs : List Addr} (h1 : s.heap.get? a = some o) (h2 : o.cls = .type "list") (h3 : o.data = .seq l.toArray n) (h : ShownAll X s l ds as bs) : ∃ as' bs', Shown X s (.ref a) (.list ds) as' bs' := by
  have r : Reads s.heap (.ref a) (.list ds) _ := .list h1 h2 h3 (by simpa using h.rd)
  have na : a ∉ bs := not_mem_of_deeper r (by simp only [PyData.depth]; omega) h.am
  have hk := h.rk
  refine ⟨_, a :: bs, r, .cons r (by simp only [PyData.depth]; omega) h.am, ?_⟩
  simp only [PyData.depth, PyData.shown]
  cases l with
  | nil =>
    cases h.rd
    simp only [PyData.shownAll, listText_nil]
    exact ReprK.listEmpty h1 h2 h3
  | cons x l => exact ReprK.list h1 h2 h3 na (by simpa using hk.length_eq) fun i y e => hk.item i y (by simpa using e)
theorem shown_tup {a : Addr} {o : Obj} {l : List Value} {n : Nat} {ds : List PyData} {as bs : List Addr} (h1 : s.heap.get? a = some o) (h2 : o.cls = .type "tuple") (h3 : o.data = .seq l.toArray n) (h : ShownAll X s l ds as bs) : ∃ as' bs', Shown X s (.ref a) (.tuple ds) as' bs' := by
  have r : Reads s.heap (.ref a) (.tuple ds) _ := .tuple h1 h2 h3 (by simpa using h.rd)
  have na : a ∉ bs := not_mem_of_deeper r (by simp only [PyData.depth]; omega) h.am
  refine ⟨_, a :: bs, r, .cons r (by simp only [PyData.depth]; omega) h.am, ?_⟩
  simp only [PyData.depth, PyData.shown]
  exact ReprK.tuple h1 h2 h3 na (by simpa using h.rk)
theorem shown_dct {a : Addr} {o : Obj} {n : Nat} (h1 : s.heap.get? a = some o) (h2 : o.cls = .type "dict") (h3 : o.data = .dict #[] n) (hs : (a == sysModules) = false) : ∃ as' bs', Shown X s (.ref a) (.dict []) as' bs' := by
  have r : Reads s.heap (.ref a) (.dict []) _ := .dict h1 h2 h3 .nil .nil
  exact ⟨_, [a], r, .cons (n := 0) r (Nat.zero_le _) (fun _ h => nomatch h), ReprK.dict (ps := []) h1 h2 h3 hs (fun h => nomatch h) .nil⟩
theorem dct1_le {x : Str} {d : PyData} (h : (dictText [PyData.shown (.str x) ++ ": " ++ d.shown]).length ≤ sizeLine) : (reprText x).length ≤ sizeLine ∧ d.shown.length ≤ sizeLine := by
  have l := Nat.le_trans (dictText_mem_le (List.mem_singleton.mpr rfl)) h
  rw [strLen_append, strLen_append] at l
  have e : (PyData.shown (.str x)).length = (reprText x).length := by simp only [PyData.shown]
  omega
theorem shown_dct1 {a : Addr} {o : Obj} {n : Nat} {en : DictEntry} {x : Str} {t : Tok} {d : PyData} {as bs : List Addr} (h1 : s.heap.get? a = some o) (h2 : o.cls = .type "dict") (h3 : o.data = .dict #[en] n) (hs : (a == sysModules) = false) (hk : en.key = .str x t) (hx : (reprText x).length ≤ sizeLine) (h : Shown X s en.val d as bs) :
    a ∉ bs ∧ ReprEntriesK X.prog X.w bs s.heap d.depth [en] [PyData.shown (.str x) ++ ": " ++ d.shown] ∧ ∃ as' bs', Shown X s (.ref a) (.dict [(.str x, d)]) as' bs' := by
  obtain ⟨as1, rk⟩ : ∃ as1, ReadsAll s.heap [en.key] [PyData.str x] as1 := by rw [hk]; exact ⟨_, .cons (.str _ _) .nil⟩
  obtain ⟨as2, rv⟩ : ∃ as2, ReadsAll s.heap [en.val] [d] as2 := ⟨_, .cons h.rd .nil⟩
  obtain ⟨as3, r⟩ : ∃ as3, Reads s.heap (.ref a) (.dict [(.str x, d)]) as3 := ⟨_, .dict h1 h2 h3 (by simpa using rk) (by simpa using rv)⟩
  have dp : PyData.depthKv [(PyData.str x, d)] = d.depth := by simp [PyData.depthKv, PyData.depth]
  have na : a ∉ bs := not_mem_of_deeper r (by simp only [PyData.depth, dp]; omega) h.am
  have kk : ReprK X.prog X.w bs s.heap d.depth en.key (PyData.shown (.str x)) := by
    rw [hk]
    simp only [PyData.shown]
    exact .of_is (ReprIs.str x t hx) _ _ _
  have en' : ReprEntriesK X.prog X.w bs s.heap d.depth [en] [PyData.shown (.str x) ++ ": " ++ d.shown] := .cons kk h.rk .nil
  refine ⟨na, en', _, a :: bs, r, .cons r (by simp only [PyData.depth, dp]; omega) h.am, ?_⟩
  simp only [PyData.depth, PyData.shown, PyData.shownKv, dp]
  exact ReprK.dict (ps := [PyData.shown (.str x) ++ ": " ++ d.shown]) h1 h2 h3 hs na en'
theorem shown_cons {u : Value} {us : List Value} {d : PyData} {ds : List PyData} {as bs as2 bs2 : List Addr} (h : Shown X s u d as bs) (k : ShownAll X s us ds as2 bs2) : ∃ as' bs', ShownAll X s (u :: us) (d :: ds) as' bs' := by
  refine ⟨_, bs ++ bs2, .cons h.rd k.rd, ?_, ?_⟩
  · simp only [PyData.depthAll]
    exact (h.am.mono (Nat.le_max_left _ _)).append (k.am.mono (Nat.le_max_right _ _))
  · simp only [PyData.depthAll, PyData.shownAll]
    exact .cons ((h.rk.more fun b hb => List.mem_append_left _ hb).level_le (Nat.le_max_left _ _)) (k.rk.more_le (fun b hb => List.mem_append_right _ hb) (Nat.le_max_right _ _))
mutual
theorem Dq.shown (I : Inv X pins σ H s) : ∀ {d : PyData} {v : V} {u : Value}, Dq X.K H v d → RelV v u → d.showable = true → d.shown.length ≤ sizeLine → ∃ as bs, Shown X s u d as bs
  | _, _, _, .leaf h, r, hs, hz => by
    obtain ⟨as, rd⟩ := Dp.reads I _ _ _ h r
    obtain ⟨bs, am, rk⟩ := ReprK.of_reads (prog := X.prog) (w := X.w) rd hs (PyData.noDict_hsm (noDict_dp h)) hz
    exact ⟨as, bs, rd, am, rk⟩
  | _, _, _, .dct e, r, _, _ => by
    cases r
    obtain ⟨o, n, h1, h2, h3, h4⟩ := empty_at I e
    exact shown_dct h1 h2 h3 h4
  | _, _, _, .dct1 (x := x) (d := d) e h, r, hs, hz => by
    cases r
    obtain ⟨o, n, en, t, h1, h2, h3, h4, h5, h6⟩ := one_at I e
    obtain ⟨g1, g2⟩ := dct1_le (by simpa only [PyData.shown, PyData.shownKv] using hz)
    obtain ⟨as, bs, k⟩ := Dq.shown I h h6 (by simpa [PyData.showable, PyData.showableKv] using hs) g2
    exact (shown_dct1 h1 h2 h3 h4 h5 g1 k).2.2
  | _, _, _, .lst (ds := ds) hq ha, r, hs, hz => by
    cases r
    obtain ⟨its, rv, ⟨o, n, ho, hc, _, hd⟩, _⟩ := I.list hq
    have hz' : (listText (PyData.shownAll ds)).length ≤ sizeLine := by simpa only [PyData.shown] using hz
    obtain ⟨as, bs, k⟩ := DqAll.shown I ha rv (by simpa [PyData.showable] using hs) fun t ht => Nat.le_trans (listText_mem_le ht) hz'
    exact shown_list ho hc hd k
  | _, _, _, .tup (ds := ds) hq ha, r, hs, hz => by
    cases r
    obtain ⟨its, rv, ⟨o, ho, hc, n, hd⟩, _⟩ := I.tuple hq
    have hz' : (tupleText (PyData.shownAll ds)).length ≤ sizeLine := by simpa only [PyData.shown] using hz
    obtain ⟨as, bs, k⟩ := DqAll.shown I ha rv (by simpa [PyData.showable] using hs) fun t ht => Nat.le_trans (tupleText_mem_le ht) hz'
    exact shown_tup ho hc hd k
theorem DqAll.shown (I : Inv X pins σ H s) : ∀ {ds : List PyData} {vs : List V} {us : List Value}, DqAll X.K H vs ds → Vals vs us → PyData.showableAll ds = true → (∀ t ∈ PyData.shownAll ds, t.length ≤ sizeLine) → ∃ as bs, ShownAll X s us ds as bs
  | _, _, _, .nil, r, _, _ => by
    cases r
    exact ⟨[], [], .nil, (fun _ h => nomatch h), by simp only [PyData.shownAll]; exact .nil⟩
  | _, _, _, .cons h hs', r, hs, hz => by
    cases r with
    | cons r1 r2 =>
      obtain ⟨g1, g2⟩ : _ ∧ _ := by simpa [PyData.showableAll] using hs
      obtain ⟨_, _, k1⟩ := Dq.shown I h r1 g1 (hz _ (by simp only [PyData.shownAll]; exact List.mem_cons_self ..))
      obtain ⟨_, _, k2⟩ := DqAll.shown I hs' r2 g2 fun t ht => hz t (by simp only [PyData.shownAll]; exact List.mem_cons_of_mem _ ht)
      exact shown_cons k1 k2
end
theorem Dq.shows (I : Inv X pins σ H s) {a : Addr} {d : PyData} (h : Dq X.K H (.ref a) d) (hs : d.showable = true) (hz : d.shown.length ≤ sizeLine) : ∃ T idr, ShowsBy X.prog X.w s.heap a d T idr := by
  cases h with
  | leaf h =>
    obtain ⟨as, rd⟩ := Dp.reads I _ _ (.ref a) h rfl
    exact showsBy_of_reads rd hs (PyData.noDict_hsm (noDict_dp h)) hz
  | dct e =>
    obtain ⟨o, n, h1, h2, h3, h4⟩ := empty_at I e
    refine ⟨"dict", "dict.__repr__", F.slot_dict_repr, F.slot_dict_str, F.slot_dict_format, fun s1 hk => ⟨o, hk _ _ h1, h2⟩, fun A E s1 Q hg hu hk hQ => ?_⟩
    exact call_dict_reprK (as := []) (d := 0) (ps := []) h1 h2 h3 h4 (fun h => nomatch h) .nil hg (fun b _ => Clear.nil b) (by simpa only [PyData.depth, PyData.depthKv] using hu) hk hQ hz
  | dct1 e h =>
    rename_i x v d
    obtain ⟨o, n, en, t, h1, h2, h3, h4, h5, h6⟩ := one_at I e
    obtain ⟨g1, g2⟩ := dct1_le (by simpa only [PyData.shown, PyData.shownKv] using hz)
    obtain ⟨as, bs, k⟩ := Dq.shown I h h6 (by simpa [PyData.showable, PyData.showableKv] using hs) g2
    obtain ⟨na, ek, _⟩ := shown_dct1 h1 h2 h3 h4 h5 g1 k
    refine ⟨"dict", "dict.__repr__", F.slot_dict_repr, F.slot_dict_str, F.slot_dict_format, fun s1 hk => ⟨o, hk _ _ h1, h2⟩, fun A E s1 Q hg hu hk hQ => ?_⟩
    have dp : PyData.depthKv [(PyData.str x, d)] = d.depth := by simp [PyData.depthKv, PyData.depth]
    simp only [PyData.depth, dp] at hu
    simp only [PyData.shown, PyData.shownKv] at hQ
    exact call_dict_reprK (ps := [PyData.shown (.str x) ++ ": " ++ d.shown]) h1 h2 h3 h4 na ek hg (fun b _ => Clear.nil b) hu hk (by simpa only [PyData.shown] using hQ) (by simpa only [PyData.shown, PyData.shownKv] using hz)
  | lst hq ha =>
    rename_i xs ds
    obtain ⟨its, rv, ⟨o, n, h1, h2, _, h3⟩, _⟩ := I.list hq
    have hz' : (listText (PyData.shownAll ds)).length ≤ sizeLine := by simpa only [PyData.shown] using hz
    obtain ⟨as, bs, k⟩ := DqAll.shown I ha rv (by simpa [PyData.showable] using hs) fun t ht => Nat.le_trans (listText_mem_le ht) hz'
    have na : a ∉ bs := not_mem_of_deeper (.list h1 h2 h3 (by simpa using k.rd)) (by simp only [PyData.depth]; omega) k.am
    refine ⟨"list", "list.__repr__", F.slot_list_repr.toG, F.slot_list_str, F.slot_list_format, fun s1 hk => ⟨o, hk _ _ h1, h2⟩, fun A E s1 Q hg hu hk hQ => ?_⟩
    simp only [PyData.depth] at hu
    simp only [PyData.shown] at hQ
    have rk := k.rk
    cases its with
    | nil =>
      cases k.rd
      simp only [PyData.shownAll, listText_nil] at hQ
      exact call_list_repr_empty ⟨o, hk _ _ h1, h2⟩ (hk _ _ h1) h3 (hQ s1.heap _ _ fun _ _ e => e)
    | cons x l => exact call_list_reprK h1 h2 h3 na (by simpa using rk.length_eq) (fun i y e => rk.item i y (by simpa using e)) hg (fun b _ => Clear.nil b) hu hk hQ hz'
  | tup hq ha =>
    rename_i xs ds
    obtain ⟨its, rv, ⟨o, h1, h2, n, h3⟩, _⟩ := I.tuple hq
    have hz' : (tupleText (PyData.shownAll ds)).length ≤ sizeLine := by simpa only [PyData.shown] using hz
    obtain ⟨as, bs, k⟩ := DqAll.shown I ha rv (by simpa [PyData.showable] using hs) fun t ht => Nat.le_trans (tupleText_mem_le ht) hz'
    have na : a ∉ bs := not_mem_of_deeper (.tuple h1 h2 h3 (by simpa using k.rd)) (by simp only [PyData.depth]; omega) k.am
    refine ⟨"tuple", "tuple.__repr__", F.slot_tuple_repr, F.slot_tuple_str, F.slot_tuple_format, fun s1 hk => ⟨o, hk _ _ h1, h2⟩, fun A E s1 Q hg hu hk hQ => ?_⟩
    simp only [PyData.depth] at hu
    simp only [PyData.shown] at hQ
    exact call_tuple_reprK h1 h2 h3 na (by simpa using k.rk) hg (fun b _ => Clear.nil b) hu hk hQ hz'
/-- repr of an object that may hold empty dicts -/
theorem Dq.repr (I : Inv X pins σ H s) {a : Addr} {d : PyData} {E : Value → Shared → Prop} {Q : Value → Shared → Prop} (h : Dq X.K H (.ref a) d) (hs : d.showable = true) (hz : d.shown.length ≤ sizeLine) (hg : X.A.guards = some []) (hu : X.A.units + (d.depth + 1) < cLine)
    (hQ : ∀ h' u tk, (∀ b o, s.heap.get? b = some o → h'.get? b = some o) → Q (.str d.shown u) { s with heap := h', toks := tk }) : wpAny (model X.prog X.w) X.A (call (.builtin "repr") [.ref a]) Q E s := by
  obtain ⟨T, idr, S⟩ := Dq.shows I h hs hz
  exact call_repr_slot (by omega) (S.typeIs s fun _ _ e => e) S.slotRepr (S.call X.A.in1 E s _ hg (by show X.A.units + 1 + d.depth < cLine; omega) (fun _ _ e => e) fun h' u tk hk => ⟨_, _, rfl, hQ h' u tk hk⟩)
end
section
variable {g : Gm} {H : Hp} {O : AP1}
mutual
theorem RD.dq : ∀ {d : D} {v : V} {p : PyData}, RD g H O v d → shD d = some p → Dq g.K H v p
  | .non, _, _, h, e => by cases h; cases e; exact .leaf .non
  | .bl b, _, _, h, e => by cases h; cases e; exact .leaf (.bl b)
  | .int i, _, _, h, e => by cases h; cases e; exact .leaf (.int i)
  | .str x, _, _, h, e => by cases h; cases e; exact .leaf (.str x)
  | .tup ds, _, _, h, e => by
    cases h with
    | tup h hs =>
      obtain ⟨ps, e1, rfl⟩ := Option.map_eq_some_iff.mp (show (shDs ds).map PyData.tuple = some _ from e)
      exact .tup h.sq (RDs.dq hs e1)
  | .lst ds, _, _, h, e => by
    cases h with
    | lst h hs =>
      obtain ⟨ps, e1, rfl⟩ := Option.map_eq_some_iff.mp (show (shDs ds).map PyData.list = some _ from e)
      exact .lst h.sq (RDs.dq hs e1)
  | .dct [], _, _, h, e => by
    cases h with
    | dct h n hs => cases hs; cases e; exact .dct h
  | .dct [(.inr x, d)], _, _, h, e => by
    obtain ⟨p, e1, rfl⟩ := Option.map_eq_some_iff.mp (show (shD d).map (fun p => PyData.dict [(.str x, p)]) = some _ from e)
    cases h with
    | dct h n hs => cases hs with
      | cons h1 hs => cases hs; exact .dct1 h (RD.dq h1 e1)
  | .dct ((.inl _, _) :: _), _, _, _, e => by cases e
  | .dct ((.inr _, _) :: _ :: _), _, _, _, e => by cases e
  | .fnc _, _, _, _, e => by cases e
  | .kdc _, _, _, _, e => by cases e
  | .dtc _, _, _, _, e => by cases e
theorem RDs.dq : ∀ {ds : List D} {vs : List V} {ps : List PyData}, RDs g H O vs ds → shDs ds = some ps → DqAll g.K H vs ps
  | [], _, _, h, e => by cases h; cases e; exact .nil
  | d :: ds, _, _, h, e => by
    cases h with
    | cons h hs =>
      unfold shDs at e
      split at e
      · rename_i p ps e1 e2
        cases e
        exact .cons (RD.dq h e1) (RDs.dq hs e2)
      · cases e
end
theorem RB.dq {d : D} {v : V} {p : PyData} (h : RB g H O v d) (e : shD d = some p) : Dq g.K H v p := by
  cases h with
  | sh h => exact h.dq e
  | lst h hs =>
    obtain ⟨ps, e1, rfl⟩ := Option.map_eq_some_iff.mp (show (shDs _).map PyData.list = some _ from e)
    exact .lst (.of h) (hs.dq e1)
  | dct h hs => cases hs with
    | nil => cases e; exact .dct h
    | cons h1 hs =>
      rename_i k _ _ _ _
      cases k with
      | inl i => cases e
      | inr x =>
        cases hs with
        | nil =>
          obtain ⟨p, e1, rfl⟩ := Option.map_eq_some_iff.mp (show (shD _).map (fun p => PyData.dict [(.str x, p)]) = some _ from e)
          exact .dct1 h (h1.dq e1)
        | cons _ _ => cases e
  | dtc _ _ => cases e
end
end Wr
namespace GN
open PySem PySem.Spec PyProof.Rows PySem.SeqAt PySem.MeetsSeq
section
variable {A : Around} {s : Shared}
theorem dct_eq_str (l : Addr) (od : Option Addr) (es : Array DictEntry) (ep : Nat) (sl : Array (Option Value)) (b : Str) (u : Tok) :
    Meets (Builtin.«dict.__eq__» ⟨[.ref l, .str b u], []⟩) (fun _ R s => s.heap.get? l = some ⟨.type "dict", od, .dict es ep, sl⟩ ∧ R (.ok (.ret .notImplemented)) s) :=
  .of_wp fun prog w A R s h => by
    obtain ⟨hp, g, d, tk, os⟩ := s
    obtain ⟨hl, h⟩ := h
    have f1 := PySem.F.sub_str_dict
    wp_walk using AutoSeq1.wpAny_loadPart' hl
    exact ⟨_, rfl, h⟩
theorem str_eq_dct (b : Str) (u : Tok) (l : Addr) (od : Option Addr) (es : Array DictEntry) (ep : Nat) (sl : Array (Option Value)) :
    Meets (Builtin.«str.__eq__» ⟨[.str b u, .ref l], []⟩) (fun _ R s => s.heap.get? l = some ⟨.type "dict", od, .dict es ep, sl⟩ ∧ R (.ok (.ret .notImplemented)) s) :=
  .of_wp fun prog w A R s h => by
    obtain ⟨hp, g, d, tk, os⟩ := s
    obtain ⟨hl, h⟩ := h
    wp_walk using AutoSeq1.wpAny_loadPart' hl, wpAny_load hl
    exact ⟨_, rfl, h⟩
theorem eq_str_dct {l : Addr} {o : Obj} {es : Array DictEntry} {ep : Nat} (b : Str) (u : Tok) (hl : s.heap.get? l = some o) (hc : o.cls = .type "dict") (hd : o.data = .dict es ep) (hu : A.units < cLine) : EqAt A s (.str b u) (.ref l) false := fun prog w E Q h => by
  obtain ⟨oc, od, dt, sl⟩ := o
  simp only at hc hd
  subst hc hd
  have rc : RcAt A s (.str b u) (.ref l) false := fun prog w E Q h =>
    rc_eq_decline_or (k := false) (typeIs_str s b u) ⟨_, hl, rfl⟩ (by decide) PySem.F.sub_dict_str PySem.F.slot_str_eq PySem.F.slot_dict_eq_refl
      (fun _ hq => call_meets PySem.F.slot_str_eq (typeIs_str s b u) PySem.F.entry_str_eq (PySem.F.args_str_eq_2 _ _) (str_eq_dct b u l od es ep sl) ⟨hl, hq⟩)
      (fun _ hq => call_meets PySem.F.slot_dict_eq_refl ⟨_, hl, rfl⟩ PySem.F.entry_dict_eq (PySem.F.args_dict_eq_2 _ _) (dct_eq_str l od es ep sl b u) ⟨hl, hq⟩)
      (fun _ hq => wpAny_of_eq (rfl : isSame (.str b u) (.ref l) = pure false) hq) (.inr hu) h
  unfold eqBool
  refine wpAny_holding (wpAny_ite_split (fun e => absurd (eq_of_beq e) nofun) fun _ => wpAny_bind (rc prog w E _ (wpAny_truthy_bool h)))
end
end GN
namespace Wr
open PySem PySem.Spec L2
open PyProof.Rows hiding St
section
variable {X : Cx} {g : Gm}
theorem depthL {ps : List PyData} (h : SeqAt.shaped (.list ps) = true) : PyData.depthAll ps ≤ 63 := by
  have := SeqAt.depth_of_shaped h
  simp only [PyData.depth] at this
  omega
/-- the two sides of in, neg: not in -/
theorem inN_ok (neg : Bool) (hK : X.K = g.K) (hu : X.A.units + 64 < cLine) {pins : List (Addr × Obj)} {s : Shared} {σ : St} {H : Hp} {O : AP1} {x y : V} {v u : Value} {d : D} {xs : List D} {c : Bool} {Q : VK} (I : Inv X pins σ H s) (rx : RelV x v) (ry : RelV y u) (hx : RB g H O x d) (hy : RB g H O y (.lst xs) ∨ RB g H O y (.tup xs))
    (hk : inN d xs = some c) (q : Q (.bl (if neg = true then !c else c)) H) : wpAny (model X.prog X.w) X.A (compareOp (if neg = true then .NotIn else .In) v u) (EP X pins σ Q) X.xe s := by
  unfold inN at hk
  split at hk
  · rename_i ps p e1 e2
    split at hk
    · rename_i hc
      cases hk
      have dx := hx.dp e2
      rw [← hK] at dx
      obtain ⟨as, r1⟩ := Dp.reads I p x v dx rx
      have dl := depthL hc.2
      have room : X.A.units + 1 + min (PyData.depthAll ps) p.depth < cLine := by omega
      have lay : PyData.canLayAll0 ps = true := SeqAt.canLay_of_shaped hc.2
      rcases hy with hy | hy
      · have dy := hy.dp (p := .list ps) (by simp only [toPy, e1, Option.map_some])
        rw [← hK] at dy
        obtain ⟨bs, r2⟩ := Dp.reads I (.list ps) y u dy ry
        cases neg with
        | true => exact SeqAt.notIn_list_reads r2 r1 lay (SeqAt.canLay_of_shaped hc.1) room ⟨.bl _, H, I, rfl, q⟩
        | false => exact SeqAt.in_list_reads r2 r1 lay (SeqAt.canLay_of_shaped hc.1) room ⟨.bl _, H, I, rfl, q⟩
      · have dy := hy.dp (p := .tuple ps) (by simp only [toPy, e1, Option.map_some])
        rw [← hK] at dy
        obtain ⟨bs, r2⟩ := Dp.reads I (.tuple ps) y u dy ry
        cases neg with
        | true => exact SeqAt.notIn_tuple_reads r2 r1 lay (SeqAt.canLay_of_shaped hc.1) room ⟨.bl _, H, I, rfl, q⟩
        | false => exact SeqAt.in_tuple_reads r2 r1 lay (SeqAt.canLay_of_shaped hc.1) room ⟨.bl _, H, I, rfl, q⟩
    · cases hk
  · cases hk
def isStr : D → Bool
  | .str _ => true
  | _ => false
theorem strs_rel {H : Hp} {O : AP1} : ∀ {vs : List V} {xs : List D} {its : List Value}, RDs g H O vs xs → xs.all isStr = true → Vals vs its → ∀ y ∈ its, ∃ b t, y = Value.str b t
  | _, _, _, .nil, _, .nil, y, hy => by cases hy
  | _, d :: ds, _, .cons h hs, e, .cons r rs, y, hy => by
    rw [List.all_cons, Bool.and_eq_true] at e
    rcases List.mem_cons.mp hy with rfl | hy
    · cases d <;> first
        | (cases h; obtain ⟨t, rfl⟩ := r; exact ⟨_, t, rfl⟩)
        | (exact absurd e.1 (by simp [isStr]))
    · exact strs_rel hs e.2 rs y hy
theorem inT_ok (neg : Bool) (hK : X.K = g.K) (hu : X.A.units + 64 < cLine) {pins : List (Addr × Obj)} {s : Shared} {σ : St} {H : Hp} {O : AP1} {x y : V} {v u : Value} {d : D} {xs : List D} {c : Bool} {Q : VK} (I : Inv X pins σ H s) (rx : RelV x v) (ry : RelV y u) (hx : RB g H O x d) (hy : RB g H O y (.tup xs))
    (hk : inT d xs = some c) (q : Q (.bl (if neg = true then !c else c)) H) : wpAny (model X.prog X.w) X.A (compareOp (if neg = true then .NotIn else .In) v u) (EP X pins σ Q) X.xe s := by
  unfold inT at hk
  split at hk
  · split at hk
    · rename_i hs
      cases hk
      have hs : xs.all isStr = true := hs
      obtain ⟨a, kvs, rfl, hX, hxs⟩ := hx.getD
      cases rx
      obtain ⟨b, ys, rfl, hY, hys⟩ := hy.getT
      cases ry
      rw [← hK] at hY
      obtain ⟨its, r2, e2, z2⟩ := I.tuple hY
      obtain ⟨_, _, vs, _, o, es, ep, ho, hx1, hx2, _⟩ := dk_of I.hok hX
      have at_ : ∀ y, y ∈ its.toArray → SeqAt.EqAt X.A.in1 s y (.ref a) false := fun y hy => by
        obtain ⟨b, t, rfl⟩ := strs_rel hys hs r2 y (by simpa using hy)
        exact GN.eq_str_dct b t ho hx1.1 hx2 (by show X.A.units + 1 < cLine; omega)
      have any0 : its.toArray.any (fun _ => false) = false := by simp
      cases neg with
      | true => exact SeqAt.notIn_tupleAt (fun _ => false) e2 at_ (by rw [any0]; exact ⟨.bl _, H, I, rfl, q⟩)
      | false => exact SeqAt.in_tupleAt (fun _ => false) e2 at_ (by rw [any0]; exact ⟨.bl _, H, I, rfl, q⟩)
    · cases hk
  · exact inN_ok neg hK hu I rx ry hx (.inr hy) hk q
/-- l.count(x) of data -/
def rCntD (g : Gm) : V → List V → Hp → VK → Prop := fun x xs H Q => ∃ (O : AP1) (y : V) (d e : D) (r : Rs), xs = [y] ∧ RB g H O x d ∧ RB g H O y e ∧ (∀ b, O b → H b ≠ none) ∧ cntD d e = some r ∧ Mk1 g H O r Q
theorem mt_cntD (hK : X.K = g.K) (hu : X.A.units + 64 < cLine) : MtR X "list.count" (rCntD g) := by
  intro pins s σ H x xs v us Q I rx rxs h
  obtain ⟨O, y, d, e, r, rfl, hx, hy, ob, hk, q⟩ := h
  unfold cntD at hk
  split at hk
  · split at hk
    · rename_i ps p e1 e2
      split at hk
      · rename_i hc
        cases hk
        obtain ⟨a, ys, rfl, hX, hxs⟩ := hx.getL
        rw [← hK] at hX
        cases rx
        cases rxs with
        | cons ry rt =>
          rename_i uy ut
          cases rt
          have dy := hy.dp e2
          rw [← hK] at dy
          obtain ⟨bs, r1⟩ := Dp.reads I p y uy dy ry
          have da := hxs.dp e1
          rw [← hK] at da
          obtain ⟨its, rv, ⟨⟨cls, dd, data, sls⟩, n, ho, hcl, hdn, hdt⟩, hlen⟩ := I.list hX.sq
          simp only at hcl hdt
          subst hcl hdt
          obtain ⟨as, h4⟩ := Dp.readsAll I ps _ its da rv
          have lay : PyData.canLayAll0 ps = true := SeqAt.canLay_of_shaped hc.1
          have dl := depthL hc.1
          have hmap := SeqAt.readsAll_map ps its as lay h4
          refine call_meets PySem.F.slot_list_count ⟨_, ho, rfl⟩ PySem.F.entry_list_count (PySem.F.args_list_count_2 _ _)
            (SeqAt.list_countAt a its.toArray n dd sls uy fun u => PyData.eqv (SeqAt.readOf s.heap u) p) ⟨ho, SeqAt.items_eqAt (vs := its.toArray) (show ReadsAll s.heap its.toArray.toList ps as from h4) r1 lay (SeqAt.canLay_of_shaped hc.2) (by omega), ?_⟩
          have ec : its.toArray.toList.countP (fun u => PyData.eqv (SeqAt.readOf s.heap u) p) = ps.countP fun z => PyData.eqv z p := by
            rw [← hmap, List.countP_map]
            rfl
          refine ⟨.int (ps.countP fun z => PyData.eqv z p : Nat), H, I.tok _, ⟨s.toks, ?_⟩, q.int⟩
          rw [ec]
      · cases hk
    · cases hk
  · cases hk
def rIdxD (g : Gm) : V → List V → Hp → VK → Prop := fun x xs H Q => ∃ (O : AP1) (y : V) (d e : D) (r : Rs), xs = [y] ∧ RB g H O x d ∧ RB g H O y e ∧ (∀ b, O b → H b ≠ none) ∧ idxD d e = some r ∧ Mk1 g H O r Q
theorem mt_idxD (hK : X.K = g.K) (hu : X.A.units + 65 < cLine) : MtR X "list.index" (rIdxD g) := by
  intro pins s σ H x xs v us Q I rx rxs h
  obtain ⟨O, y, d, e, r, rfl, hx, hy, ob, hk, q⟩ := h
  unfold idxD at hk
  split at hk
  · split at hk
    · rename_i ps p e1 e2
      split at hk
      · rename_i hc
        split at hk
        · rename_i j ej
          cases hk
          obtain ⟨hj, hjp, hlow⟩ := List.findIdx?_eq_some_iff_getElem.mp ej
          have dy := hy.dp e2
          have dx := hx.dp (p := .list ps) (by simp only [toPy, e1, Option.map_some])
          obtain ⟨a, ys, rfl, hX, hxs⟩ := hx.getL
          rw [← hK] at dx dy
          refine mt_indexD hu pins s σ H _ _ v us Q I rx rxs ⟨a, y, p, ps, j, ps[j], rfl, rfl, dx, dy, hc.1, hc.2, List.getElem?_eq_getElem hj, hjp, fun m z' hm hz => ?_, q.int⟩
          obtain ⟨hml, rfl⟩ := List.getElem?_eq_some_iff.mp hz
          have := hlow m hm
          simpa using this
        · cases hk
      · cases hk
    · cases hk
  · cases hk
end
end Wr
namespace Wr
open PySem PySem.Spec L2
open PyProof.Rows hiding St
section
variable {prog : Program} {w : World} {A : Around} {E : Value → Shared → Prop} {s : Shared}
theorem str_of_boolW {b : Bool} {Q : Value → Shared → Prop} (h : Q (.str (if b = true then "True" else "False") s.toks) { s with toks := s.toks + 1 }) : wpAny (model prog w) A (call (.type "str") [.bool b]) Q E s :=
  callType_new F.called_str (by decide) (F.typeCall_str_1 _) (F.newCall_str_1 _) (fun obj => F.args_object_init_2 obj _) F.entry_str_new
    (meets_str_new (S := fun _ R s => R (.ok (.ret (.str (if b = true then "True" else "False") s.toks))) { s with toks := s.toks + 1 }) fun _ _ _ _ s hq =>
      wpAny_strOf_gives rfl (PySem.typeIs_bool s b) F.slot_bool_str F.slot_bool_repr F.entry_bool_repr (F.args_bool_repr_1 _) (gives_bool_repr b) hq (hsz := by cases b <;> decide)) ⟨typeIs_str _ _ _, h⟩
end
section
variable {prog : Program} {w : World} {A : Around} {E : Value → Shared → Prop} {s : Shared} {l : Addr} {xs : Array (Int × Tok)}
/-- iter(t) of a tuple of ints -/
theorem iterTup {Q : Value → Shared → Prop} (hl : s.heap.IsTuple l (intItems xs))
    (h : ∀ s2 : Shared, s2 = { s with heap := s.heap.push { cls := .type "tuple_iterator", data := .fields #[.ref l, .int 0 0] } } → (s2.heap.IsTupleIter s.heap.objs.size l 0 ∧ s2.heap.IsTuple l (intItems xs)) → (∀ b ∈ [s.heap.objs.size, l], b < s2.heap.objs.size) → l ≠ s.heap.objs.size → Q (.ref s.heap.objs.size) s2) :
    wpAny (model prog w) A (pyIter (.ref l)) Q E s := by
  have lt : l < s.heap.objs.size := by
    obtain ⟨_, e, _⟩ := hl
    exact Heap.lt_size e
  refine wpAny_pyIter_tuple hl (h _ rfl ⟨⟨_, Heap.get?_push_size _ rfl, rfl, rfl⟩, hl.push _⟩ (fun b hb => ?_) (Nat.ne_of_lt lt))
  show b < (s.heap.push _).objs.size
  rw [Heap.size_push]
  rcases List.mem_cons.mp hb with e | hb
  · subst e
    exact Nat.lt_succ_self _
  · obtain rfl := List.mem_singleton.mp hb
    exact Nat.lt_succ_of_lt lt
theorem keptTup {h' : Heap} {o : Obj} (hk : ∀ b x, b ∉ [s.heap.objs.size] → (s.heap.push o).get? b = some x → h'.get? b = some x) : ∀ b x, s.heap.get? b = some x → h'.get? b = some x := fun b x e =>
  hk b x (fun hm => absurd ((List.mem_singleton.mp hm) ▸ Heap.lt_size e) (Nat.lt_irrefl _)) (Heap.get?_push_of_some _ e)
theorem sumTup {its : List Value} {ns : List Int} {Q : Value → Shared → Prop} (hh : A.handled = none) (hl : s.heap.IsTuple l its.toArray) (hi : IntsAre its ns)
    (h : ∀ h' tk t', (∀ b o, s.heap.get? b = some o → h'.get? b = some o) → Q (.int ns.sum t') { s with heap := h', toks := tk }) : wpAny (model prog w) A (call (.builtin "sum") [.ref l]) Q E s := by
  obtain ⟨xs, e⟩ := hi.allInts.items
  have hn : numsOf (intItems xs).toList = ns := by rw [← e]; exact hi.numsOf
  rw [nums_intItems] at hn
  rw [e] at hl
  refine call_sum_walkG (iterTup hl fun s2 e2 st fp ne => ?_)
  subst e2
  refine ⟨_, _, _, _, _, _, numAt xs, rfl, Walks.tuple (A := A.in1) hh _ l ne (intItems xs), st, fp, (fun _ _ => intItems_at), fun h' tk t' hk => ?_⟩
  have g := h h' tk t' (keptTup hk)
  have p : preSum (numAt xs) (intItems xs).size = ns.sum := by
    rw [show (intItems xs).size = xs.size by simp [intItems], preSum_eq, List.take_of_length_le (by simp), hn]
  rw [← p] at g
  exact g
theorem maxTup {its : List Value} {ns : List Int} {Q : Value → Shared → Prop} (hh : A.handled = none) (hl : s.heap.IsTuple l its.toArray) (hi : IntsAre its ns) (hne : 0 < ns.length)
    (h : ∀ h' tk M t', (∀ b o, s.heap.get? b = some o → h'.get? b = some o) → M ∈ ns → (∀ a, a ∈ ns → a ≤ M) → Q (.int M t') { s with heap := h', toks := tk }) : wpAny (model prog w) A (call (.builtin "max") [.ref l]) Q E s := by
  obtain ⟨xs, e⟩ := hi.allInts.items
  have hn : numsOf (intItems xs).toList = ns := by rw [← e]; exact hi.numsOf
  rw [nums_intItems] at hn
  subst hn
  rw [e] at hl
  have sz : (intItems xs).size = xs.size := by simp [intItems]
  refine call_max_walk (iterTup hl fun s2 e2 st fp ne => ?_)
  subst e2
  refine ⟨_, _, _, _, _, _, _, rfl, Walks.tuple (A := A.in1) hh _ l ne (intItems xs), st, fp, by rw [sz]; simpa using hne, CmpOf.ints_gt (numAt xs) (fun _ _ => intItems_at), fun v h' tk hP hk => ?_⟩
  rw [sz] at hP
  obtain ⟨t, rfl⟩ := intItems_at hP
  obtain ⟨h1, h2⟩ := argBest_gt (numAt xs) (xs.size - 1)
  have hs : 0 < xs.size := by simpa using hne
  refine h h' tk _ t (keptTup hk) ?_ fun a ha => ?_
  · rw [numAt_eq]; exact PySem.getD_mem (by rw [List.length_map, Array.length_toList]; omega)
  · obtain ⟨j, hj, rfl⟩ := mem_getD ha
    rw [List.length_map, Array.length_toList] at hj
    rw [← numAt_eq]; exact h2 j (by omega)
theorem minTup {its : List Value} {ns : List Int} {Q : Value → Shared → Prop} (hh : A.handled = none) (hl : s.heap.IsTuple l its.toArray) (hi : IntsAre its ns) (hne : 0 < ns.length)
    (h : ∀ h' tk M t', (∀ b o, s.heap.get? b = some o → h'.get? b = some o) → M ∈ ns → (∀ a, a ∈ ns → M ≤ a) → Q (.int M t') { s with heap := h', toks := tk }) : wpAny (model prog w) A (call (.builtin "min") [.ref l]) Q E s := by
  obtain ⟨xs, e⟩ := hi.allInts.items
  have hn : numsOf (intItems xs).toList = ns := by rw [← e]; exact hi.numsOf
  rw [nums_intItems] at hn
  subst hn
  rw [e] at hl
  have sz : (intItems xs).size = xs.size := by simp [intItems]
  refine call_min_walk (iterTup hl fun s2 e2 st fp ne => ?_)
  subst e2
  refine ⟨_, _, _, _, _, _, _, rfl, Walks.tuple (A := A.in1) hh _ l ne (intItems xs), st, fp, by rw [sz]; simpa using hne, CmpOf.ints_lt (numAt xs) (fun _ _ => intItems_at), fun v h' tk hP hk => ?_⟩
  rw [sz] at hP
  obtain ⟨t, rfl⟩ := intItems_at hP
  obtain ⟨h1, h2⟩ := argBest_lt (numAt xs) (xs.size - 1)
  have hs : 0 < xs.size := by simpa using hne
  refine h h' tk _ t (keptTup hk) ?_ fun a ha => ?_
  · rw [numAt_eq]; exact PySem.getD_mem (by rw [List.length_map, Array.length_toList]; omega)
  · obtain ⟨j, hj, rfl⟩ := mem_getD ha
    rw [List.length_map, Array.length_toList] at hj
    rw [← numAt_eq]; exact h2 j (by omega)
end
section
variable {X : Cx}
theorem cr_sumT (hc : X.calm = true) : CallR X (.builtin "sum") (fun vs H Q => ∃ (a : Addr) (ns : List Int), vs = [V.ref a] ∧ SqT X.K H a (ns.map V.int) ∧ Q (.int ns.sum) H) := by
  intro pins s σ H vs us Q I r ⟨a, ns, e, hs, q⟩
  subst e
  obtain ⟨its, rv, hl, _⟩ := I.tuple hs
  rw [Vals.ref1 r]
  exact sumTup (I.ok.hd hc) hl rv.ints fun h' tk t' hk => ⟨.int _, H, I.kept hk, ⟨_, rfl⟩, q⟩
theorem cr_maxT (hc : X.calm = true) : CallR X (.builtin "max") (fun vs H Q => ∃ (a : Addr) (ns : List Int), vs = [V.ref a] ∧ SqT X.K H a (ns.map V.int) ∧ 0 < ns.length ∧ ∀ m, m ∈ ns → (∀ y, y ∈ ns → y ≤ m) → Q (.int m) H) := by
  intro pins s σ H vs us Q I r ⟨a, ns, e, hs, hne, q⟩
  subst e
  obtain ⟨its, rv, hl, _⟩ := I.tuple hs
  rw [Vals.ref1 r]
  exact maxTup (I.ok.hd hc) hl rv.ints hne fun h' tk m t' hk h1 h2 => ⟨.int _, H, I.kept hk, ⟨_, rfl⟩, q m h1 h2⟩
theorem cr_minT (hc : X.calm = true) : CallR X (.builtin "min") (fun vs H Q => ∃ (a : Addr) (ns : List Int), vs = [V.ref a] ∧ SqT X.K H a (ns.map V.int) ∧ 0 < ns.length ∧ ∀ m, m ∈ ns → (∀ y, y ∈ ns → m ≤ y) → Q (.int m) H) := by
  intro pins s σ H vs us Q I r ⟨a, ns, e, hs, hne, q⟩
  subst e
  obtain ⟨its, rv, hl, _⟩ := I.tuple hs
  rw [Vals.ref1 r]
  exact minTup (I.ok.hd hc) hl rv.ints hne fun h' tk m t' hk h1 h2 => ⟨.int _, H, I.kept hk, ⟨_, rfl⟩, q m h1 h2⟩
end
section
variable {X : Cx} {g : Gm}
def rC2 (g : Gm) (k : D → D → Option Bool) : R2 := fun x y H Q => ∃ O d e c, RB g H O x d ∧ RB g H O y e ∧ k d e = some c ∧ Q (.bl c) H
theorem RB.nnon {H : Hp} {O : AP1} {v : V} {d : D} (h : RB g H O v d) (hd : d ≠ .non) : v ≠ .non := by
  cases h with
  | sh h => cases h <;> first | exact absurd rfl hd | (intro z; cases z)
  | lst _ _ => intro z; cases z
  | dct _ _ => intro z; cases z
  | dtc _ _ => intro z; cases z
theorem eq0_some {d e : D} {c : Bool} (h : eq0 d e = some c) : ∃ x r, d = .tup (x :: r) ∧ e = .tup [] ∧ c = false := by
  unfold eq0 at h
  split at h
  · cases h
    exact ⟨_, _, rfl, rfl, rfl⟩
  · cases h
theorem eqD_some {d e : D} {c : Bool} (h : eqD d e = some c) : (∃ p q, toPy d = some p ∧ toPy e = some q ∧ SeqAt.shaped p = true ∧ SeqAt.shaped q = true ∧ PyData.eqv p q = c) ∨ ∃ x r, d = .tup (x :: r) ∧ e = .tup [] ∧ c = false := by
  unfold eqD at h
  split at h
  · rename_i p q h1 h2
    split at h
    · rename_i hs
      cases h
      exact .inl ⟨p, q, h1, h2, hs.1, hs.2, rfl⟩
    · exact .inr (eq0_some h)
  · exact .inr (eq0_some h)
theorem eqF_rel {H : Hp} {O : AP1} {x y : V} {d e : D} (hx : RD g H O x d) (hy : RD g H O y e) (fx : flatD d = true) (fy : flatD e = true) : flatV x = true ∧ flatV y = true ∧ eqV x y = eqF d e := by
  cases hx <;> first | (cases fx; done) | (cases hy <;> first | (cases fy; done) | exact ⟨rfl, rfl, rfl⟩)
theorem RB.flat {H : Hp} {O : AP1} {x : V} {d : D} (h : RB g H O x d) (f : flatD d = true) : RD g H O x d := by
  cases h with
  | sh h => exact h
  | lst _ _ => cases f
  | dct _ _ => cases f
  | dtc _ _ => cases f
theorem inV_rel {H : Hp} {O : AP1} {x : V} {d : D} (hx : RD g H O x d) (fx : flatD d = true) : ∀ {ys : List V} {es : List D}, RDs g H O ys es → es.all flatD = true → flatV x = true ∧ ys.all flatV = true ∧ inV x ys = es.any fun y => eqF y d
  | [], _, .nil, _ => ⟨by cases hx <;> first | (cases fx; done) | rfl, rfl, rfl⟩
  | y :: ys, _, .cons (d := e) h hs, f => by
    rw [List.all_cons, Bool.and_eq_true] at f
    obtain ⟨h1, h2, h3⟩ := inV_rel hx fx hs f.2
    obtain ⟨g1, g2, g3⟩ := eqF_rel h hx f.1 fx
    refine ⟨g2, by rw [List.all_cons, g1, h2]; rfl, ?_⟩
    unfold inV at h3 ⊢
    rw [List.any_cons, List.any_cons, g3, h3]
theorem val_rel {H : Hp} {O : AP1} {x : Str} : ∀ {xs : List (Key × V)} {ds : List (Key × D)}, RDk g H O xs ds → (valV xs (.inr x)).isSome = (dctAt ds x).isSome ∧ ∀ d, dctAt ds x = some d → ∃ v, valV xs (.inr x) = some v ∧ RD g H O v d
  | [], _, .nil => ⟨rfl, fun d e => by cases e⟩
  | (k, v) :: xs, _, .cons (d := d0) (ds := ds) h hs => by
    by_cases e : k = .inr x
    · subst e
      have e1 : dctAt ((.inr x, d0) :: ds) x = some d0 := by simp [dctAt]
      have e2 : valV ((.inr x, v) :: xs) (.inr x) = some v := valV_pos rfl
      rw [e1, e2]
      exact ⟨rfl, fun d z => by cases z; exact ⟨v, rfl, h⟩⟩
    · have e1 : dctAt ((k, d0) :: ds) x = dctAt ds x := by simp [dctAt, e]
      have e2 : valV ((k, v) :: xs) (.inr x) = valV xs (.inr x) := valV_neg e
      rw [e1, e2]
      exact val_rel hs
/-- .. at any key of a dict of ints and texts -/
theorem valD_rel {H : Hp} {O : AP1} {x : Key} : ∀ {xs : List (Key × V)} {ds : List (Key × D)}, RDk g H O xs ds → (valV xs x).isSome = (atD ds x).isSome ∧ ∀ d, atD ds x = some d → ∃ v, valV xs x = some v ∧ RD g H O v d
  | [], _, .nil => ⟨rfl, fun d e => by cases e⟩
  | (k, v) :: xs, _, .cons (d := d0) (ds := ds) h hs => by
    by_cases e : k = x
    · subst e
      have e1 : atD ((k, d0) :: ds) k = some d0 := by simp [atD]
      have e2 : valV ((k, v) :: xs) k = some v := valV_pos rfl
      rw [e1, e2]
      exact ⟨rfl, fun d z => by cases z; exact ⟨v, rfl, h⟩⟩
    · have e1 : atD ((k, d0) :: ds) x = atD ds x := by simp [atD, e]
      have e2 : valV ((k, v) :: xs) x = valV xs x := valV_neg e
      rw [e1, e2]
      exact valD_rel hs
theorem valT_rel {H : Hp} {O : AP1} {x : List Key} : ∀ {xs : List (List Key × V)} {ds : List (List Key × D)}, RDt g H O xs ds → (valV xs x).isSome = (atD ds x).isSome ∧ ∀ d, atD ds x = some d → ∃ v, valV xs x = some v ∧ RD g H O v d
  | [], _, .nil => ⟨rfl, fun d e => by cases e⟩
  | (k, v) :: xs, _, .cons (d := d0) (ds := ds) h hs => by
    by_cases e : k = x
    · subst e
      have e1 : atD ((k, d0) :: ds) k = some d0 := by simp [atD]
      have e2 : valV ((k, v) :: xs) k = some v := valV_pos rfl
      rw [e1, e2]
      exact ⟨rfl, fun d z => by cases z; exact ⟨v, rfl, h⟩⟩
    · have e1 : atD ((k, d0) :: ds) x = atD ds x := by simp [atD, e]
      have e2 : valV ((k, v) :: xs) x = valV xs x := valV_neg e
      rw [e1, e2]
      exact valT_rel hs
/-- a value's key -/
theorem key1_rel {H : Hp} {O : AP1} {v : V} {d : D} {k : Key} (h : RD g H O v d) (e : keyD1 d = some k) : v = kV k := by
  cases d <;> first | (cases e; done) | (cases e; cases h; rfl)
theorem keys_rel {H : Hp} {O : AP1} : ∀ {vs : List V} {ds : List D} {ks : List Key}, RDs g H O vs ds → keysD ds = some ks → vs = ks.map kV
  | _, [], ks, h, e => by cases h; cases e; rfl
  | _, d :: ds, ks, h, e => by
    cases h with
    | cons h hs =>
      unfold keysD at e
      split at e
      · rename_i k ks' e1 e2
        cases e
        rw [key1_rel h e1, keys_rel hs e2]
        rfl
      · cases e
theorem keyD_some {ds : List D} {ks : List Key} (e : keyD ds = some ks) : keysD ds = some ks ∧ (ks.any fun k => k.isLeft) = true ∧ (ks.any fun k => k.isRight) = true := by
  unfold keyD at e
  split at e
  · rename_i ks' e1
    split at e
    · rename_i h
      cases e
      exact ⟨e1, h⟩
    · cases e
  · cases e
theorem noStrs : ∀ {ks : List Key} {ss : List Str}, ks.map kV = ss.map V.str → (ks.any fun k => k.isLeft) = false
  | [], _, _ => rfl
  | k :: ks, [], e => by cases e
  | k :: ks, s :: ss, e => by
    rw [List.map_cons, List.map_cons] at e
    obtain ⟨e1, e2⟩ := List.cons.inj e
    cases k with
    | inl i => cases e1
    | inr x => rw [List.any_cons, noStrs e2]; rfl
theorem noInts : ∀ {ks : List Key} {is : List Int}, ks.map kV = is.map V.int → (ks.any fun k => k.isRight) = false
  | [], _, _ => rfl
  | k :: ks, [], e => by cases e
  | k :: ks, s :: ss, e => by
    rw [List.map_cons, List.map_cons] at e
    obtain ⟨e1, e2⟩ := List.cons.inj e
    cases k with
    | inl i => rw [List.any_cons, noInts e2]; rfl
    | inr x => cases e1
/-- a tuple of ints and texts is a tracked one -/
theorem key_rel {H : Hp} {O : AP1} {v : V} {ds : List D} {ks : List Key} (h : RD g H O v (.tup ds)) (e : keyD ds = some ks) : ∃ b, v = .ref b ∧ H b = some (.tup (ks.map kV)) := by
  obtain ⟨e1, hl, hr⟩ := keyD_some e
  cases h with
  | tup h hs =>
    have ev := keys_rel hs e1
    subst ev
    rcases h with ⟨h, _⟩ | ⟨_, ⟨ss, es⟩ | ⟨is, es⟩⟩
    · exact ⟨_, rfl, h⟩
    · rw [noStrs es] at hl; cases hl
    · rw [noInts es] at hr; cases hr
theorem opr_in (hK : X.K = g.K) (hP : X.w.params = g.prm) (hu : X.A.units + 64 < cLine) : OpR X (compareOp .In) (rC2 g inD) := by
  intro pins s σ H x y v u Q I rx ry h
  obtain ⟨O, d, e, c, hx, hy, hk, q⟩ := h
  unfold inD at hk
  split at hk
  · rename_i z kvs
    cases hk
    cases hx.getS
    obtain ⟨a, xs, rfl, hX, hxs⟩ := hy.getD
    cases ry
    have e1 := (val_rel (x := z) hxs).1
    refine d_in (by omega) I (DGet.k (k := .inr z) hX) rx fun s' I' => ⟨.bl _, H, I', rfl, ?_⟩
    rw [e1]
    exact q
  · rename_i z kvs
    cases hk
    cases hx.getS
    obtain ⟨a, rfl, es, n, k1, k2, k3, kq, hz⟩ := hy.getK
    have D : L2.KDict X.K X.w a es n := ⟨by rw [hK]; exact k1, by rw [hP]; exact k2, k3⟩
    cases ec : gvAt kvs z with
    | none =>
      rw [ec] at q
      exact op_in_kd D pins s σ H _ _ v u Q I rx ry ⟨z, none, rfl, rfl, by rw [hK]; exact (hz z).1 ec, q⟩
    | some d =>
      rw [ec] at q
      obtain ⟨v0, u0, e0, _, _⟩ := (hz z).2 d ec
      exact op_in_kd D pins s σ H _ _ v u Q I rx ry ⟨z, some u0, rfl, rfl, by rw [hK]; exact e0, q⟩
  · rename_i i kvs
    cases hk
    cases hx.getI
    obtain ⟨a, xs, rfl, hX, hxs⟩ := hy.getD
    cases ry
    have e1 := (valD_rel (x := .inl i) hxs).1
    refine d_in (by omega) I (DGet.k (k := .inl i) hX) rx fun s' I' => ⟨.bl _, H, I', rfl, ?_⟩
    rw [e1]
    exact q
  · rename_i ds kvs
    obtain ⟨k, ek, rfl⟩ := Option.map_eq_some_iff.mp hk
    obtain ⟨b, rfl, hb⟩ := key_rel hx.tupSh ek
    obtain ⟨a, xs, rfl, hX, hxs⟩ := hy.getDt
    cases ry
    have e1 := (valT_rel (x := k) hxs).1
    refine d_in (by omega) I (DGet.t hX hb) rx fun s' I' => ⟨.bl _, H, I', rfl, ?_⟩
    rw [e1]
    exact q
  · split at hk
    · rename_i hc
      cases hk
      obtain ⟨a, xs, rfl, hX, hxs⟩ := hy.getL
      rw [← hK] at hX
      obtain ⟨f1, f2, f3⟩ := inV_rel (hx.flat hc.1) hc.1 hxs hc.2
      exact op_in_seq pins s σ H _ _ v u Q I rx ry ⟨a, xs, rfl, .inl hX.sq, f1, f2, by rw [f3]; exact q⟩
    · exact inN_ok false hK hu I rx ry hx (.inl hy) hk q
  · split at hk
    · rename_i hc
      cases hk
      obtain ⟨a, xs, rfl, hX, hxs⟩ := hy.getT
      rw [← hK] at hX
      obtain ⟨f1, f2, f3⟩ := inV_rel (hx.flat hc.1) hc.1 hxs hc.2
      exact op_in_seq pins s σ H _ _ v u Q I rx ry ⟨a, xs, rfl, .inr hX, f1, f2, by rw [f3]; exact q⟩
    · exact inT_ok false hK hu I rx ry hx hy hk q
  · cases hx.getS
    cases hy.getS
    cases hk
    exact op_in_str pins s σ H _ _ v u Q I rx ry ⟨_, _, rfl, rfl, q⟩
  · cases hk
theorem opr_notIn (hK : X.K = g.K) (hP : X.w.params = g.prm) (hu : X.A.units + 64 < cLine) : OpR X (compareOp .NotIn) (fun x y H Q => ∃ O d e c, RB g H O x d ∧ RB g H O y e ∧ inD d e = some c ∧ Q (.bl (!c)) H) := by
  intro pins s σ H x y v u Q I rx ry h
  obtain ⟨O, d, e, c, hx, hy, hk, q⟩ := h
  unfold inD at hk
  split at hk
  · rename_i z kvs
    cases hk
    cases hx.getS
    obtain ⟨a, xs, rfl, hX, hxs⟩ := hy.getD
    cases ry
    have e1 := (val_rel (x := z) hxs).1
    refine d_notIn (by omega) I (DGet.k (k := .inr z) hX) rx fun s' I' => ⟨.bl _, H, I', rfl, ?_⟩
    rw [e1]
    exact q
  · rename_i z kvs
    cases hk
    cases hx.getS
    obtain ⟨a, rfl, es, n, k1, k2, k3, kq, hz⟩ := hy.getK
    have D : L2.KDict X.K X.w a es n := ⟨by rw [hK]; exact k1, by rw [hP]; exact k2, k3⟩
    cases ec : gvAt kvs z with
    | none =>
      rw [ec] at q
      exact op_notIn_kd D pins s σ H _ _ v u Q I rx ry ⟨z, none, rfl, rfl, by rw [hK]; exact (hz z).1 ec, q⟩
    | some d =>
      rw [ec] at q
      obtain ⟨v0, u0, e0, _, _⟩ := (hz z).2 d ec
      exact op_notIn_kd D pins s σ H _ _ v u Q I rx ry ⟨z, some u0, rfl, rfl, by rw [hK]; exact e0, q⟩
  · rename_i i kvs
    cases hk
    cases hx.getI
    obtain ⟨a, xs, rfl, hX, hxs⟩ := hy.getD
    cases ry
    have e1 := (valD_rel (x := .inl i) hxs).1
    refine d_notIn (by omega) I (DGet.k (k := .inl i) hX) rx fun s' I' => ⟨.bl _, H, I', rfl, ?_⟩
    rw [e1]
    exact q
  · rename_i ds kvs
    obtain ⟨k, ek, rfl⟩ := Option.map_eq_some_iff.mp hk
    obtain ⟨b, rfl, hb⟩ := key_rel hx.tupSh ek
    obtain ⟨a, xs, rfl, hX, hxs⟩ := hy.getDt
    cases ry
    have e1 := (valT_rel (x := k) hxs).1
    refine d_notIn (by omega) I (DGet.t hX hb) rx fun s' I' => ⟨.bl _, H, I', rfl, ?_⟩
    rw [e1]
    exact q
  · split at hk
    · rename_i hc
      cases hk
      obtain ⟨a, xs, rfl, hX, hxs⟩ := hy.getL
      rw [← hK] at hX
      obtain ⟨f1, f2, f3⟩ := inV_rel (hx.flat hc.1) hc.1 hxs hc.2
      exact op_notIn_seq pins s σ H _ _ v u Q I rx ry ⟨a, xs, rfl, .inl hX.sq, f1, f2, by rw [f3]; exact q⟩
    · exact inN_ok true hK hu I rx ry hx (.inl hy) hk q
  · split at hk
    · rename_i hc
      cases hk
      obtain ⟨a, xs, rfl, hX, hxs⟩ := hy.getT
      rw [← hK] at hX
      obtain ⟨f1, f2, f3⟩ := inV_rel (hx.flat hc.1) hc.1 hxs hc.2
      exact op_notIn_seq pins s σ H _ _ v u Q I rx ry ⟨a, xs, rfl, .inr hX, f1, f2, by rw [f3]; exact q⟩
    · exact inT_ok true hK hu I rx ry hx hy hk q
  · cases hx.getS
    cases hy.getS
    cases hk
    exact op_notin_str pins s σ H _ _ v u Q I rx ry ⟨_, _, rfl, rfl, q⟩
  · cases hk
theorem opr_cmp (hK : X.K = g.K) (hP : X.w.params = g.prm) (hu : X.A.units + 64 < cLine) (op : CmpOp) : OpR X (compareOp op) (rC2 g (cmpop op)) := by
  intro pins s σ H x y v u Q I rx ry h
  obtain ⟨O, d, e, c, hx, hy, hk, q⟩ := h
  unfold cmpop at hk
  split at hk
  · cases hx.getI; cases hy.getI; cases hk; exact op_lt pins s σ H _ _ v u Q I rx ry ⟨_, _, rfl, rfl, q⟩
  · cases hx.getI; cases hy.getI; cases hk; exact op_le pins s σ H _ _ v u Q I rx ry ⟨_, _, rfl, rfl, q⟩
  · cases hx.getI; cases hy.getI; cases hk; exact op_gt pins s σ H _ _ v u Q I rx ry ⟨_, _, rfl, rfl, q⟩
  · cases hx.getI; cases hy.getI; cases hk; exact op_ge pins s σ H _ _ v u Q I rx ry ⟨_, _, rfl, rfl, q⟩
  · rename_i a b
    cases hx.getS; cases hy.getS; cases hk
    refine op_eq pins s σ H _ _ v u Q I rx ry ⟨rfl, ?_⟩
    rw [show decide (V.str a = V.str b) = decide (a = b) by simp]
    exact q
  · rename_i a b
    cases hx.getS; cases hy.getS; cases hk
    refine op_ne pins s σ H _ _ v u Q I rx ry ⟨rfl, ?_⟩
    rw [show decide (V.str a = V.str b) = decide (a = b) by simp]
    exact q
  · rcases eqD_some hk with ⟨p, p', e1, e2, s1, s2, rfl⟩ | ⟨x0, r0, rfl, rfl, rfl⟩
    · have h1 := hx.dp e1
      have h2 := hy.dp e2
      rw [← hK] at h1 h2
      exact op_eqD hu pins s σ H _ _ v u Q I rx ry ⟨p, p', h1, h2, s1, s2, q⟩
    · obtain ⟨a, xs, rfl, hX, hxs⟩ := hx.getT
      obtain ⟨b, ys, rfl, hY, hys⟩ := hy.getT
      rw [← hK] at hX hY
      cases hys
      cases hxs with
      | cons r rs => exact op_eqT0 (Nat.lt_of_le_of_lt (Nat.le_add_right _ 64) hu) pins s σ H _ _ v u Q I rx ry ⟨a, b, _, rfl, rfl, hX, hY, q⟩
  · obtain ⟨c', hk', rfl⟩ := Option.map_eq_some_iff.mp hk
    rcases eqD_some hk' with ⟨p, p', e1, e2, s1, s2, rfl⟩ | ⟨x0, r0, rfl, rfl, rfl⟩
    · have h1 := hx.dp e1
      have h2 := hy.dp e2
      rw [← hK] at h1 h2
      exact op_neD hu pins s σ H _ _ v u Q I rx ry ⟨p, p', h1, h2, s1, s2, q⟩
    · obtain ⟨a, xs, rfl, hX, hxs⟩ := hx.getT
      obtain ⟨b, ys, rfl, hY, hys⟩ := hy.getT
      rw [← hK] at hX hY
      cases hys
      cases hxs with
      | cons r rs => exact op_neT0 (Nat.lt_of_le_of_lt (Nat.le_add_right _ 64) hu) pins s σ H _ _ v u Q I rx ry ⟨a, b, _, rfl, rfl, hX, hY, q⟩
  · cases hy.getN
    refine op_isN pins s σ H _ _ v u Q I rx ry ⟨rfl, ?_⟩
    split at hk
    · cases hx.getN; cases hk; exact q
    · rename_i hd
      cases hk
      rw [decide_eq_false (hx.nnon hd)]
      exact q
  · cases hy.getN
    refine op_notN pins s σ H _ _ v u Q I rx ry ⟨rfl, ?_⟩
    split at hk
    · cases hx.getN; cases hk; exact q
    · rename_i hd
      cases hk
      rw [decide_eq_false (hx.nnon hd)]
      exact q
  · cases hx.getB
    cases hy.getB
    cases hk
    exact op_isBl pins s σ H _ _ v u Q I rx ry ⟨_, _, rfl, rfl, q⟩
  · cases hx.getB
    cases hy.getB
    cases hk
    exact op_notBl pins s σ H _ _ v u Q I rx ry ⟨_, _, rfl, rfl, q⟩
  · exact opr_in hK hP hu pins s σ H x y v u Q I rx ry ⟨O, d, e, c, hx, hy, hk, q⟩
  · obtain ⟨c', hk', rfl⟩ := Option.map_eq_some_iff.mp hk
    exact opr_notIn hK hP hu pins s σ H x y v u Q I rx ry ⟨O, d, e, c', hx, hy, hk', q⟩
  · cases hk
theorem atI_rel {H : Hp} {O : AP1} {vs : List V} {ds : List D} {i : Int} {d : D} (h : RDs g H O vs ds) (e : atI ds i = some d) : ∃ v, atI vs i = some v ∧ RD g H O v d := by
  unfold atI at e ⊢
  rw [h.len]
  cases q : ixN ds.length i with
  | none => rw [q] at e; cases e
  | some j =>
    rw [q] at e
    exact h.get e
def rIxD (g : Gm) : R2 := fun x y H Q => ∃ O d e r, RB g H O x d ∧ RB g H O y e ∧ ixD d e = some r ∧ ∀ v, RD g H O v r → Q v H
theorem ixr (hK : X.K = g.K) (hP : X.w.params = g.prm) (hu : X.A.units + 64 < cLine) : IxR X (rIxD g) := by
  have base := ix_seq (X := X)
  rw [hK] at base
  intro ve se pins s σ H x y v u Q I rx ry h hs
  obtain ⟨O, d, e, r, hx, hy, hk, q⟩ := h
  unfold ixD at hk
  split at hk
  · refine base ve se pins s σ H x y v u Q I rx ry ?_ hs
    obtain ⟨a, xs, rfl, hX, hxs⟩ := hx.getL
    cases hy.getI
    obtain ⟨w, hw, rw'⟩ := atI_rel hxs hk
    exact .inl ⟨a, xs, _, w, rfl, rfl, hX.sq, hw, q _ rw'⟩
  · refine base ve se pins s σ H x y v u Q I rx ry ?_ hs
    obtain ⟨a, xs, rfl, hX, hxs⟩ := hx.getT
    cases hy.getI
    obtain ⟨w, hw, rw'⟩ := atI_rel hxs hk
    exact .inr (.inl ⟨a, xs, _, w, rfl, rfl, hX, hw, q _ rw'⟩)
  · rename_i kvs z
    obtain ⟨a, xs, rfl, hX, hxs⟩ := hx.getD
    cases hy.getS
    obtain ⟨w, hw, rw'⟩ := (val_rel (x := z) hxs).2 _ hk
    cases rx
    have ty := (isD_at I (.inl ⟨xs, .inl hX⟩)).1
    have dg : DGet H a (.str z) (some w) := by
      have := DGet.k (k := .inr z) hX
      rw [hw] at this
      exact this
    exact tail_any ty slot_dict_getitem.lookup (d_getItem (by omega) I dg ry fun w' s' I' r' => ⟨w, H, I', r', q _ rw'⟩) hs
  · rename_i kvs z
    obtain ⟨d', ec, rfl⟩ := Option.map_eq_some_iff.mp hk
    obtain ⟨a, rfl, es, n, k1, k2, k3, kq, hz⟩ := hx.getK
    cases hy.getS
    obtain ⟨v0, u0, e0, r0, kv⟩ := (hz z).2 d' ec
    refine ix_kdict (X := X) ve se pins s σ H _ _ v u Q I rx ry ⟨a, z, v0, rfl, rfl, ⟨es, n, u0, by rw [hK]; exact k1, by rw [hP]; exact k2, by rw [hK]; exact e0, r0⟩, q _ kv.rd⟩ hs
  · rename_i kvs i
    obtain ⟨a, xs, rfl, hX, hxs⟩ := hx.getD
    cases hy.getI
    obtain ⟨w, hw, rw'⟩ := (valD_rel (x := .inl i) hxs).2 _ hk
    cases rx
    have ty := (isD_at I (.inl ⟨xs, .inl hX⟩)).1
    have dg : DGet H a (.int i) (some w) := by
      have := DGet.k (k := .inl i) hX
      rw [hw] at this
      exact this
    exact tail_any ty slot_dict_getitem.lookup (d_getItem (by omega) I dg ry fun w' s' I' r' => ⟨w, H, I', r', q _ rw'⟩) hs
  · rename_i kvs ds
    obtain ⟨k, ek, hk⟩ := Option.bind_eq_some_iff.mp hk
    obtain ⟨a, xs, rfl, hX, hxs⟩ := hx.getDt
    obtain ⟨b, rfl, hb⟩ := key_rel hy.tupSh ek
    obtain ⟨w, hw, rw'⟩ := (valT_rel (x := k) hxs).2 _ hk
    cases rx
    have ty := (isD_at I (.inr ⟨xs, .inl hX⟩)).1
    have dg : DGet H a (.ref b) (some w) := by
      have := DGet.t hX hb
      rw [hw] at this
      exact this
    exact tail_any ty slot_dict_getitem.lookup (d_getItem (by omega) I dg ry fun w' s' I' r' => ⟨w, H, I', r', q _ rw'⟩) hs
  · split at hk
    · rename_i hz
      obtain ⟨c, ec, rfl⟩ := Option.map_eq_some_iff.mp hk
      refine base ve se pins s σ H x y v u Q I rx ry ?_ hs
      cases hx.getS
      cases hy.getI
      exact .inr (.inr ⟨_, _, c, rfl, rfl, by rw [← sizeL_eq]; exact hz, ec, q _ (.str _)⟩)
    · cases hk
  · cases hk
theorem RDs.cut {H : Hp} {O : AP1} {vs : List V} {ds : List D} (h : RDs g H O vs ds) (lo hi : Option Int) : RDs g H O (cutV vs lo hi) (cutD ds lo hi) := by
  unfold cutV cutD
  rw [h.len]
  exact (h.drop _).take _
theorem cutD_all {α : Type} {ds : List α} {lo hi : Option Int} (h1 : HT.sIx ds.length 0 lo = 0) (h2 : HT.sIx ds.length ds.length hi = ds.length) : cutD ds lo hi = ds := by
  unfold cutD
  rw [h1, h2, List.drop_zero, Nat.sub_zero]
  exact List.take_of_length_le (Nat.le_refl _)
def rSlD (g : Gm) : V → Option Int → Option Int → Hp → VK → Prop := fun x lo hi H Q => ∃ O d r, (∀ b, O b → H b ≠ none) ∧ RB g H O x d ∧ slD d lo hi = some r ∧ Mk1 g H O r Q
theorem slr (hK : X.K = g.K) : L2.SlR X (rSlD g) := by
  have b1 := sl_list (X := X)
  have b2 := sl_tupA (X := X)
  rw [hK] at b1 b2
  intro pins s σ H x v vl vu lo hi sl Q I rx hs pl pu h
  obtain ⟨O, d, r, ob, hx, hk, q⟩ := h
  unfold slD at hk
  split at hk
  · obtain ⟨a, xs, rfl, hX, hxs⟩ := hx.getL
    cases hk
    exact b1 pins s σ H _ v vl vu lo hi sl Q I rx hs pl pu ⟨a, xs, rfl, hX.sq, q.lst (hxs.cut lo hi)⟩
  · obtain ⟨a, xs, rfl, hX, hxs⟩ := hx.getT
    cases hk
    refine b2 pins s σ H _ v vl vu lo hi sl Q I rx hs pl pu ⟨a, xs, rfl, hX, fun z => ?_, fun _ => q.tup ob (hxs.cut lo hi)⟩
    rw [hxs.len] at z
    rw [cutD_all z.1 z.2] at q
    exact q _ _ _ (.same hx.tupSh)
  · split at hk
    · rename_i hz
      cases hx.getS
      cases hk
      exact sl_str pins s σ H _ v vl vu lo hi sl Q I rx hs pl pu ⟨_, rfl, by rw [← sizeL_eq]; exact hz, q.str⟩
    · cases hk
  · cases hk
def Bi.val : Bi → Value
  | .len => .builtin "len" | .abs => .builtin "abs" | .min2 => .builtin "min" | .max2 => .builtin "max" | .int1 => .type "int" | .str1 => .type "str" | .repr => .builtin "repr" | .sum => .builtin "sum"
  | .maxL => .builtin "max" | .minL => .builtin "min" | .all => .builtin "all" | .any => .builtin "any" | .sorted => .builtin "sorted" | .listOf => .type "list" | .tupleOf => .type "tuple" | .dictOf => .type "dict"
abbrev RBs (g : Gm) (H : Hp) (O : AP1) : List V → List D → Prop := Paired (RB g H O)
theorem toInts_rel {H : Hp} {O : AP1} : ∀ {ds : List D} {vs : List V} {ns : List Int}, RDs g H O vs ds → toInts ds = some ns → vs = ns.map V.int
  | [], _, _, h, e => by cases h; cases e; rfl
  | .int i :: r, _, ns, h, e => by
    cases h with
    | cons h hs =>
      simp only [toInts, Option.map_eq_some_iff] at e
      obtain ⟨ms, e1, rfl⟩ := e
      cases h
      rw [toInts_rel hs e1]
      rfl
  | .non :: _, _, _, _, e => by cases e
  | .bl _ :: _, _, _, _, e => by cases e
  | .str _ :: _, _, _, _, e => by cases e
  | .tup _ :: _, _, _, _, e => by cases e
  | .lst _ :: _, _, _, _, e => by cases e
  | .dct _ :: _, _, _, _, e => by cases e
  | .fnc _ :: _, _, _, _, e => by cases e
  | .kdc _ :: _, _, _, _, e => by cases e
  | .dtc _ :: _, _, _, _, e => by cases e
theorem toBls_rel {H : Hp} {O : AP1} : ∀ {ds : List D} {vs : List V} {ns : List Bool}, RDs g H O vs ds → toBls ds = some ns → vs = ns.map V.bl
  | [], _, _, h, e => by cases h; cases e; rfl
  | .bl i :: r, _, ns, h, e => by
    cases h with
    | cons h hs =>
      simp only [toBls, Option.map_eq_some_iff] at e
      obtain ⟨ms, e1, rfl⟩ := e
      cases h
      rw [toBls_rel hs e1]
      rfl
  | .non :: _, _, _, _, e => by cases e
  | .int _ :: _, _, _, _, e => by cases e
  | .str _ :: _, _, _, _, e => by cases e
  | .tup _ :: _, _, _, _, e => by cases e
  | .lst _ :: _, _, _, _, e => by cases e
  | .dct _ :: _, _, _, _, e => by cases e
  | .fnc _ :: _, _, _, _, e => by cases e
  | .kdc _ :: _, _, _, _, e => by cases e
  | .dtc _ :: _, _, _, _, e => by cases e
theorem toStrs_rel {H : Hp} {O : AP1} : ∀ {ds : List D} {vs : List V} {ns : List Str}, RDs g H O vs ds → toStrs ds = some ns → vs = ns.map V.str
  | [], _, _, h, e => by cases h; cases e; rfl
  | .str i :: r, _, ns, h, e => by
    cases h with
    | cons h hs =>
      simp only [toStrs, Option.map_eq_some_iff] at e
      obtain ⟨ms, e1, rfl⟩ := e
      cases h
      rw [toStrs_rel hs e1]
      rfl
  | .non :: _, _, _, _, e => by cases e
  | .bl _ :: _, _, _, _, e => by cases e
  | .int _ :: _, _, _, _, e => by cases e
  | .tup _ :: _, _, _, _, e => by cases e
  | .lst _ :: _, _, _, _, e => by cases e
  | .dct _ :: _, _, _, _, e => by cases e
  | .fnc _ :: _, _, _, _, e => by cases e
  | .kdc _ :: _, _, _, _, e => by cases e
  | .dtc _ :: _, _, _, _, e => by cases e
theorem rising_tail {x : Str} {r : List Str} (h : sortedS (x :: r) = true) : sortedS r = true := by
  cases r with
  | nil => rfl
  | cons y t =>
    have h' : risingS x (y :: t) = true := h
    unfold risingS at h'
    rw [Bool.and_eq_true] at h'
    exact h'.2
/-- one order alone -/
theorem strict_uniq : ∀ {ys zs : List Str}, strictS ys = true → zs.Perm ys → sortedS zs = true → zs = ys
  | [], zs, _, hp, _ => List.Perm.eq_nil hp
  | y :: r, zs, h, hp, hs => by
    unfold strictS at h
    rw [Bool.and_eq_true] at h
    have lt : ∀ x ∈ r, ltCps y.cps.toList x.cps.toList = true := List.all_eq_true.mp h.1
    cases zs with
    | nil => exact absurd hp.length_eq (by simp)
    | cons z t =>
      by_cases e : z = y
      · subst e
        rw [strict_uniq h.2 (List.Perm.cons_inv hp) (rising_tail hs)]
      · exfalso
        have hy : y ∈ t := by
          have := hp.mem_iff.mpr (List.mem_cons_self (a := y) (l := r))
          rcases List.mem_cons.mp this with q | q
          · exact absurd q.symm e
          · exact q
        -- the first place of y
        have key : ∀ (l : List Str) (p : Str), risingS p l = true → p ≠ y → (∀ x ∈ l, x = y ∨ x ∈ r) → p ∈ r → y ∈ l → False := by
          intro l
          induction l with
          | nil => intro p _ _ _ _ h; cases h
          | cons x l ih =>
            intro p h' np hm hpr hy
            unfold risingS at h'
            rw [Bool.and_eq_true] at h'
            by_cases ex : x = y
            · subst ex
              have := lt p hpr
              rw [this] at h'
              cases h'.1
            · have hx : x ∈ r := (hm x List.mem_cons_self).resolve_left ex
              refine ih x h'.2 ex (fun w hw => hm w (List.mem_cons_of_mem _ hw)) hx ?_
              rcases List.mem_cons.mp hy with q | q
              · exact absurd q.symm ex
              · exact q
        have zr : z ∈ r := by
          have := hp.mem_iff.mp (List.mem_cons_self (a := z) (l := t))
          exact (List.mem_cons.mp this).resolve_left e
        exact key t z hs e (fun x hx => List.mem_cons.mp (hp.mem_iff.mp (List.mem_cons_of_mem _ hx))) zr hy
theorem maxI_of : ∀ (r : List Int) (a m : Int), m ∈ a :: r → (∀ y ∈ a :: r, y ≤ m) → m = maxI a r
  | [], a, m, h, _ => by simpa [maxI] using h
  | b :: r, a, m, h, hm => by
    have ha := hm a (by simp)
    have hb := hm b (by simp)
    unfold maxI
    split
    · rename_i hlt
      refine maxI_of r b m ?_ fun y hy => hm y (List.mem_cons_of_mem _ hy)
      rcases List.mem_cons.mp h with e | e
      · exfalso; omega
      · exact e
    · rename_i hlt
      refine maxI_of r a m ?_ fun y hy => ?_
      · rcases List.mem_cons.mp h with e | e
        · exact e ▸ List.mem_cons_self
        · rcases List.mem_cons.mp e with e | e
          · have : m = a := by omega
            exact this ▸ List.mem_cons_self
          · exact List.mem_cons_of_mem _ e
      · rcases List.mem_cons.mp hy with e | e
        · exact e ▸ ha
        · exact hm y (List.mem_cons_of_mem _ (List.mem_cons_of_mem _ e))
theorem minI_of : ∀ (r : List Int) (a m : Int), m ∈ a :: r → (∀ y ∈ a :: r, m ≤ y) → m = minI a r
  | [], a, m, h, _ => by simpa [minI] using h
  | b :: r, a, m, h, hm => by
    have ha := hm a (by simp)
    have hb := hm b (by simp)
    unfold minI
    split
    · rename_i hlt
      refine minI_of r b m ?_ fun y hy => hm y (List.mem_cons_of_mem _ hy)
      rcases List.mem_cons.mp h with e | e
      · exfalso; omega
      · exact e
    · rename_i hlt
      refine minI_of r a m ?_ fun y hy => ?_
      · rcases List.mem_cons.mp h with e | e
        · exact e ▸ List.mem_cons_self
        · rcases List.mem_cons.mp e with e | e
          · have : m = a := by omega
            exact this ▸ List.mem_cons_self
          · exact List.mem_cons_of_mem _ e
      · rcases List.mem_cons.mp hy with e | e
        · exact e ▸ ha
        · exact hm y (List.mem_cons_of_mem _ (List.mem_cons_of_mem _ e))
theorem put_rel {H : Hp} {O : AP1} {k : Key} {v : V} {d : D} (h : RD g H O v d) {xs : List (Key × V)} {ds : List (Key × D)} (hs : RDk g H O xs ds) : RDk g H O (putK xs k v) (putD ds k d) := by
  have e : (xs.any fun kv => decide (kv.1 = k)) = (ds.any fun kv => decide (kv.1 = k)) := by
    have : ∀ {xs : List (Key × V)} {ds : List (Key × D)}, RDk g H O xs ds → (xs.any fun kv => decide (kv.1 = k)) = (ds.any fun kv => decide (kv.1 = k)) := by
      intro xs
      induction xs with
      | nil => intro ds h; cases h; rfl
      | cons p xs ih => intro ds h; cases h with | cons h hs => rw [List.any_cons, List.any_cons, ih hs]
    exact this hs
  unfold putK putD
  rw [e]
  split
  · have : ∀ {xs : List (Key × V)} {ds : List (Key × D)}, RDk g H O xs ds → RDk g H O (xs.map fun kv => if kv.1 = k then (kv.1, v) else kv) (ds.map fun kv => if kv.1 = k then (kv.1, d) else kv) := by
      intro xs
      induction xs with
      | nil => intro ds h; cases h; exact .nil
      | cons p xs ih =>
        intro ds h'
        cases h' with
        | cons h1 hs1 =>
          rename_i k0 v0 d0 ds0
          rw [List.map_cons, List.map_cons]
          by_cases z : k0 = k
          · rw [if_pos z, if_pos z]; exact .cons h (ih hs1)
          · rw [if_neg z, if_neg z]; exact .cons h1 (ih hs1)
    exact this hs
  · have : ∀ {xs : List (Key × V)} {ds : List (Key × D)}, RDk g H O xs ds → RDk g H O (xs ++ [(k, v)]) (ds ++ [(k, d)]) := by
      intro xs
      induction xs with
      | nil => intro ds h'; cases h'; exact .cons h .nil
      | cons p xs ih => intro ds h'; cases h' with | cons h1 hs1 => exact .cons h1 (ih hs1)
    exact this hs
theorem putT_rel {H : Hp} {O : AP1} {k : List Key} {v : V} {d : D} (h : RD g H O v d) {xs : List (List Key × V)} {ds : List (List Key × D)} (hs : RDt g H O xs ds) : RDt g H O (putK xs k v) (putD ds k d) := by
  have e : (xs.any fun kv => decide (kv.1 = k)) = (ds.any fun kv => decide (kv.1 = k)) := by
    have : ∀ {xs : List (List Key × V)} {ds : List (List Key × D)}, RDt g H O xs ds → (xs.any fun kv => decide (kv.1 = k)) = (ds.any fun kv => decide (kv.1 = k)) := by
      intro xs
      induction xs with
      | nil => intro ds h; cases h; rfl
      | cons p xs ih => intro ds h; cases h with | cons h hs => rw [List.any_cons, List.any_cons, ih hs]
    exact this hs
  unfold putK putD
  rw [e]
  split
  · have : ∀ {xs : List (List Key × V)} {ds : List (List Key × D)}, RDt g H O xs ds → RDt g H O (xs.map fun kv => if kv.1 = k then (kv.1, v) else kv) (ds.map fun kv => if kv.1 = k then (kv.1, d) else kv) := by
      intro xs
      induction xs with
      | nil => intro ds h; cases h; exact .nil
      | cons p xs ih =>
        intro ds h'
        cases h' with
        | cons h1 hs1 =>
          rename_i k0 v0 d0 ds0
          rw [List.map_cons, List.map_cons]
          by_cases z : k0 = k
          · rw [if_pos z, if_pos z]; exact .cons h (ih hs1)
          · rw [if_neg z, if_neg z]; exact .cons h1 (ih hs1)
    exact this hs
  · have : ∀ {xs : List (List Key × V)} {ds : List (List Key × D)}, RDt g H O xs ds → RDt g H O (xs ++ [(k, v)]) (ds ++ [(k, d)]) := by
      intro xs
      induction xs with
      | nil => intro ds h'; cases h'; exact .cons h .nil
      | cons p xs ih => intro ds h'; cases h' with | cons h1 hs1 => exact .cons h1 (ih hs1)
    exact this hs
theorem merge_rel {H : Hp} {O : AP1} : ∀ {more : List (Key × V)} {dm : List (Key × D)} {xs : List (Key × V)} {ds : List (Key × D)}, RDk g H O more dm → RDk g H O xs ds → RDk g H O (mergeK xs more) (mergeD ds dm)
  | [], _, xs, ds, .nil, h => h
  | (k, v) :: more, _, xs, ds, .cons (d := d) (ds := dm) h hs, h2 => by
    show RDk g H O (mergeK (putK xs k v) more) (mergeD (putD ds k d) dm)
    exact merge_rel hs (put_rel h h2)
theorem pairs_rel {H : Hp} {O : AP1} : ∀ {ds : List D} {vs : List V} {kds : List (Key × D)}, RDs g H O vs ds → pairsD ds = some kds →
    ∃ (ps : List Addr) (kvs : List (Key × V)), vs = ps.map V.ref ∧ Paired (fun p kv => SqT g.K H p [kV kv.1, kv.2]) ps kvs ∧ RDk g H O kvs kds
  | [], _, _, h, e => by cases h; cases e; exact ⟨[], [], rfl, .nil, .nil⟩
  | d :: ds, _, kds, h, e => by
    cases h with
    | cons h hs =>
      unfold pairsD at e
      split at e
      · rename_i p ps e1 e2
        cases e
        obtain ⟨as, kvs, rfl, hp, hk⟩ := pairs_rel hs e2
        unfold pairD at e1
        split at e1
        · rename_i dk dd
          obtain ⟨k, ek, rfl⟩ := Option.map_eq_some_iff.mp e1
          cases h with
          | tup h h2 =>
            cases h2 with
            | cons h1 h3 =>
              cases h3 with
              | cons h3 h4 =>
                cases h4
                have := key1_rel h1 ek
                subst this
                rename_i a v
                exact ⟨a :: as, (k, v) :: kvs, rfl, .cons h.sq hp, .cons h3 hk⟩
        · cases e1
      · cases e
theorem keysI_rel {H : Hp} {O : AP1} : ∀ {kvs : List (Key × V)} {kds : List (Key × D)} {is : List Int}, RDk g H O kvs kds → keysI kds = some is → kvs.map (·.1) = is.map Sum.inl
  | _, [], is, h, e => by cases h; cases e; rfl
  | _, (.inl i, d) :: r, is, h, e => by
    cases h with
    | cons h hs =>
      obtain ⟨js, e1, rfl⟩ := Option.map_eq_some_iff.mp (show (keysI r).map (i :: ·) = some is from e)
      rw [List.map_cons, List.map_cons, keysI_rel hs e1]
  | _, (.inr x, d) :: r, is, h, e => by cases e
theorem insI_perm (x : Int) : ∀ l : List Int, (insI x l).Perm (x :: l)
  | [] => .refl _
  | y :: r => by
    unfold insI
    split
    · exact ((insI_perm x r).cons y).trans (.swap x y r)
    · exact .refl _
theorem insI_mem {x z : Int} {l : List Int} (h : z ∈ insI x l) : z = x ∨ z ∈ l := by
  have := (insI_perm x l).mem_iff.mp h
  exact List.mem_cons.mp this
theorem insI_sorted (x : Int) : ∀ l : List Int, l.Pairwise (· ≤ ·) → (insI x l).Pairwise (· ≤ ·)
  | [], _ => .cons (fun _ h => nomatch h) .nil
  | y :: r, h => by
    unfold insI
    cases h with
    | cons h1 h2 =>
      split
      · rename_i hlt
        refine .cons (fun z hz => ?_) (insI_sorted x r h2)
        rcases insI_mem hz with e | e
        · omega
        · exact h1 z e
      · rename_i hlt
        refine .cons (fun z hz => ?_) (.cons h1 h2)
        rcases List.mem_cons.mp hz with e | e
        · omega
        · have := h1 z e; omega
theorem sortI_perm : ∀ l : List Int, (sortI l).Perm l
  | [] => .refl _
  | x :: r => (insI_perm x (sortI r)).trans ((sortI_perm r).cons x)
theorem sortI_sorted : ∀ l : List Int, (sortI l).Pairwise (· ≤ ·)
  | [] => .nil
  | x :: r => insI_sorted x _ (sortI_sorted r)
theorem sorted_uniq : ∀ {a b : List Int}, a.Perm b → a.Pairwise (· ≤ ·) → b.Pairwise (· ≤ ·) → a = b
  | [], b, p, _, _ => (List.Perm.eq_nil p.symm).symm
  | x :: a, [], p, _, _ => (List.Perm.eq_nil p)
  | x :: a, y :: b, p, ha, hb => by
    cases ha with
    | cons h1 h2 =>
      cases hb with
      | cons g1 g2 =>
        have e : x = y := by
          have m1 : y ∈ x :: a := p.mem_iff.mpr List.mem_cons_self
          have m2 : x ∈ y :: b := p.mem_iff.mp List.mem_cons_self
          rcases List.mem_cons.mp m1 with e | m1
          · exact e.symm
          · rcases List.mem_cons.mp m2 with e | m2
            · exact e
            · have := h1 y m1
              have := g1 x m2
              omega
        subst e
        rw [sorted_uniq (List.Perm.cons_inv p) h2 g2]
section
variable {prog : Program} {w : World} {A : Around} {E : Value → Shared → Prop} {s : Shared}
open PySem.Builtin in
theorem repr_int_any {a : Int} {t : Tok} {Q : Value → Shared → Prop} (hn : s.heap.NoDigits) (ha : a.natAbs < 10 ^ 4300) (h : Q (.str (toString a) s.toks) { s with toks := s.toks + 1 }) : wpAny (model prog w) A (call (.builtin "repr") [.int a t]) Q E s := by
  refine Calls.call_function_entry F.kind_repr F.plain_repr F.entry_repr (F.args_repr1 _) ?_
  unfold Builtin.«repr»
  refine wpAny_bind (m := oneArg "repr" _) (wpAny_pure ?_)
  simp only [cRoomFor, show [Value.int a t].any Value.onHeap = false from rfl, Bool.false_eq_true, if_false, pure_bind]
  refine wpAny_bind (wpAny_specialOf (name := Str.ofString "__repr__") (typeIs_int s a t) F.slot_int_repr.lookup ?_)
  refine wpAny_bind (m := callSpecialIfBound? (.int a t) (Str.ofString "__repr__")) (wpAny_callSpecialIfBound?_slot (name := Str.ofString "__repr__") (typeIs_int s a t) F.slot_int_repr ?_)
  refine wpAny_call (codeAny_call_builtin F.slot_int_repr.plain F.entry_int_repr (F.slot_int_repr.check _ _ _ _ _ _ _ _ (typeIs_int _ a t) (F.args_int_repr_1 _) ?_))
  show wpAny _ _ (do let r ← Builtin.overDigitLimit? a; _) _ _ s
  refine wpAny_bind (overDigitLimit_any hn (fun hlt => ?_) (fun hge => absurd ha (Nat.not_lt.mpr hge)))
  refine wpAny_bind (wpAny_mkStr (wpAny_pure ?_) (int_text_fits10 hlt))
  refine wpAny_bind (wpAny_isInstance (T := "str") (b := true) rfl isSubtype_str_str ?_)
  exact wpAny_pure ⟨_, rfl, h⟩
end
theorem big_lt {n : Nat} (h : n.log2 < 12000) : n < 10 ^ 4300 := Nat.lt_of_lt_of_le (PyProof.Rows.lt_of_log2 (Nat.lt_trans h (by decide))) PyProof.Rows.pow_lo
theorem noDig {K : PySem.W.Frag} {h : Heap} (X : K.In h) (L : h.NoLimit) (e : PySem.W.nsIn K cStatics "sys.int_max_str_digits" = some none) : h.NoDigits :=
  let ⟨mc, G, _⟩ := L; ⟨mc, G, PySem.W.ns_none_of X G e⟩
theorem call_repr (hK : X.K = g.K) (hnd : PySem.W.nsIn g.K cStatics "sys.int_max_str_digits" = some none) (hu : X.A.units + 64 < cLine) (hg : X.A.guards = some []) {pins : List (Addr × Obj)} {s : Shared} {σ : St} {H : Hp} {v : V} {u : Value} {Q : VK} {O : AP1} {d : D} {r : Rs} (I : Inv X pins σ H s) (rx : RelV v u)
    (hx : RB g H O v d) (hk : reprD d = some r) (q : Mk1 g H O r Q) : wpAny (model X.prog X.w) X.A (call (.builtin "repr") [u]) (EP X pins σ Q) X.xe s := by
  unfold reprD at hk
  split at hk
  · rename_i p hp
    split at hk
    · rename_i hc
      obtain ⟨h1, h2, h3⟩ := hc
      cases hk
      have hd := hx.dq hp
      rw [← hK] at hd
      have q' := q.str
      rw [sizeL_eq] at h3
      have ob : ∀ {a : Addr}, Dq X.K H (.ref a) p → wpAny (model X.prog X.w) X.A (call (.builtin "repr") [.ref a]) (EP X pins σ Q) X.xe s := fun h => Dq.repr I h h1 h3 hg (by omega) fun h' u tk hk => ⟨.str _, H, I.kept hk, ⟨_, rfl⟩, q'⟩
      cases hd with
      | dct e => cases rx; exact ob (.dct e)
      | dct1 e h => cases rx; exact ob (.dct1 e h)
      | lst hs ha => cases rx; exact ob (.lst hs ha)
      | tup hs ha => cases rx; exact ob (.tup hs ha)
      | leaf hd =>
        cases hd with
        | non =>
          cases rx
          exact PySem.P.repr_of_none ⟨.str _, H, I.tok _, ⟨_, rfl⟩, q'⟩
        | bl b =>
          cases rx
          exact PySem.P.repr_of_bool ⟨.str _, H, I.tok _, ⟨_, rfl⟩, by cases b <;> exact q'⟩
        | int i =>
          obtain ⟨t, rfl⟩ := rx
          exact PySem.P.repr_of_int (by simpa [PyData.showable] using h1) ⟨.str _, H, I.tok _, ⟨_, rfl⟩, q'⟩
        | str x =>
          obtain ⟨t, rfl⟩ := rx
          exact PySem.P.repr_of_str ⟨.str _, H, I.tok _, ⟨_, rfl⟩, q'⟩ h3
        | lst hs ha => cases rx; exact ob (.leaf (.lst hs ha))
        | tup hs ha => cases rx; exact ob (.leaf (.tup hs ha))
    · split at hk
      · rename_i i
        split at hk
        · rename_i hb
          have hb := of_okB hb
          cases hk
          have hd := hx.dq hp
          rw [show p = PyData.int i from (Option.some.inj hp).symm] at hd
          have q' := q.str
          cases hd with
          | leaf hd =>
            cases hd with
            | int i =>
              obtain ⟨t, rfl⟩ := rx
              have KI := I.kIn
              rw [hK] at KI
              exact repr_int_any (noDig KI I.nolimit hnd) (big_lt hb) ⟨.str _, H, I.tok _, ⟨_, rfl⟩, q'⟩
        · cases hk
      · cases hk
  · cases hk
def rBi (g : Gm) (f : Bi) : List V → Hp → VK → Prop := fun xs H Q => ∃ O ds r, (∀ b, O b → H b ≠ none) ∧ RBs g H O xs ds ∧ biF f ds = some r ∧ Mk1 g H O r Q
theorem bir (hK : X.K = g.K) (hnd : PySem.W.nsIn g.K cStatics "sys.int_max_str_digits" = some none) (hP : X.w.params = g.prm) (hc : X.calm = true) (hu : X.A.units + 64 < cLine) (hg : X.A.guards = some []) (f : Bi) : CallR X f.val (rBi g f) := by
  intro pins s σ H xs us Q I rv h
  obtain ⟨O, ds, r, ob, hx, hk, q⟩ := h
  have two : ∀ {d e : D}, RBs g H O xs [d, e] → ∃ x y, xs = [x, y] ∧ RB g H O x d ∧ RB g H O y e := fun h => by
    cases h with
    | cons h1 h2 =>
      cases h2 with
      | cons h2 h3 => cases h3; exact ⟨_, _, rfl, h1, h2⟩
  have one : ∀ {d : D}, RBs g H O xs [d] → ∃ x, xs = [x] ∧ RB g H O x d := fun h => by
    cases h with
    | cons h1 h2 => cases h2; exact ⟨_, rfl, h1⟩
  unfold biF at hk
  split at hk
  · obtain ⟨x, rfl, h1⟩ := one hx
    obtain ⟨a, ys, rfl, hX, hxs⟩ := h1.getL
    rw [← hK] at hX
    cases hk
    exact call_len_seq pins s σ H _ us Q I rv ⟨a, ys, rfl, .inl hX.sq, by rw [hxs.len]; exact q.int⟩
  · obtain ⟨x, rfl, h1⟩ := one hx
    obtain ⟨a, ys, rfl, hX, hxs⟩ := h1.getT
    cases hk
    rw [← hK] at hX
    exact call_len_seq pins s σ H _ us Q I rv ⟨a, ys, rfl, .inr hX, by rw [hxs.len]; exact q.int⟩
  · obtain ⟨x, rfl, h1⟩ := one hx
    split at hk
    · rename_i hz
      cases h1.getS
      cases hk
      exact call_len_str pins s σ H _ us Q I rv ⟨_, rfl, by rw [← sizeL_eq]; exact hz, q.int⟩
    · cases hk
  · obtain ⟨x, rfl, h1⟩ := one hx
    cases h1.getI
    cases hk
    exact call_abs pins s σ H _ us Q I rv ⟨_, rfl, q.int⟩
  · obtain ⟨x, y, rfl, h1, h2⟩ := two hx
    cases h1.getI
    cases h2.getI
    cases hk
    exact call_min2 hc pins s σ H _ us Q I rv ⟨_, _, rfl, q.int⟩
  · obtain ⟨x, y, rfl, h1, h2⟩ := two hx
    cases h1.getI
    cases h2.getI
    cases hk
    exact call_max2 hc pins s σ H _ us Q I rv ⟨_, _, rfl, q.int⟩
  · obtain ⟨x, rfl, h1⟩ := one hx
    cases h1.getI
    cases hk
    exact call_int1 pins s σ H _ us Q I rv (.inl ⟨_, rfl, q.int⟩)
  · obtain ⟨x, rfl, h1⟩ := one hx
    cases h1.getB
    cases hk
    exact call_int1 pins s σ H _ us Q I rv (.inr ⟨_, rfl, q.int⟩)
  · obtain ⟨x, rfl, h1⟩ := one hx
    split at hk
    · rename_i hb
      have hb := of_okB hb
      cases h1.getI
      cases hk
      exact call_str_int pins s σ H _ us Q I rv ⟨_, rfl, by omega, q.str⟩
    · cases hk
  · obtain ⟨x, rfl, h1⟩ := one hx
    cases h1.getB
    cases hk
    obtain ⟨u, rfl, rx⟩ := Vals.one rv
    cases rx
    exact str_of_boolW ⟨.str _, H, I.tok _, ⟨_, rfl⟩, q.str⟩
  · obtain ⟨x, rfl, h1⟩ := one hx
    obtain ⟨u, rfl, rx⟩ := Vals.one rv
    exact call_repr hK hnd hu hg I rx h1 hk q
  · obtain ⟨x, rfl, h1⟩ := one hx
    obtain ⟨ns, e, rfl⟩ := Option.map_eq_some_iff.mp hk
    obtain ⟨a, ys, rfl, hX, hxs⟩ := h1.getL
    rw [← hK] at hX
    cases toInts_rel hxs e
    exact cr_sum hc pins s σ H _ us Q I rv ⟨a, ns, rfl, hX.sq, q.int⟩
  · obtain ⟨x, rfl, h1⟩ := one hx
    obtain ⟨ns, e, rfl⟩ := Option.map_eq_some_iff.mp hk
    obtain ⟨a, ys, rfl, hX, hxs⟩ := h1.getT
    rw [← hK] at hX
    cases toInts_rel hxs e
    exact cr_sumT hc pins s σ H _ us Q I rv ⟨a, ns, rfl, hX, q.int⟩
  · obtain ⟨x, rfl, h1⟩ := one hx
    split at hk
    · rename_i b t e
      obtain ⟨a, ys, rfl, hX, hxs⟩ := h1.getL
      rw [← hK] at hX
      cases toInts_rel hxs e
      cases hk
      exact cr_max hc pins s σ H _ us Q I rv ⟨a, _, rfl, hX.sq, by simp, fun m hm hle => by rw [maxI_of _ _ _ hm hle]; exact q.int⟩
    · cases hk
  · obtain ⟨x, rfl, h1⟩ := one hx
    split at hk
    · rename_i b t e
      obtain ⟨a, ys, rfl, hX, hxs⟩ := h1.getT
      rw [← hK] at hX
      cases toInts_rel hxs e
      cases hk
      exact cr_maxT hc pins s σ H _ us Q I rv ⟨a, _, rfl, hX, by simp, fun m hm hle => by rw [maxI_of _ _ _ hm hle]; exact q.int⟩
    · cases hk
  · obtain ⟨x, rfl, h1⟩ := one hx
    split at hk
    · rename_i b t e
      obtain ⟨a, ys, rfl, hX, hxs⟩ := h1.getL
      rw [← hK] at hX
      cases toInts_rel hxs e
      cases hk
      exact cr_min hc pins s σ H _ us Q I rv ⟨a, _, rfl, hX.sq, by simp, fun m hm hle => by rw [minI_of _ _ _ hm hle]; exact q.int⟩
    · cases hk
  · obtain ⟨x, rfl, h1⟩ := one hx
    split at hk
    · rename_i b t e
      obtain ⟨a, ys, rfl, hX, hxs⟩ := h1.getT
      rw [← hK] at hX
      cases toInts_rel hxs e
      cases hk
      exact cr_minT hc pins s σ H _ us Q I rv ⟨a, _, rfl, hX, by simp, fun m hm hle => by rw [minI_of _ _ _ hm hle]; exact q.int⟩
    · cases hk
  · obtain ⟨x, rfl, h1⟩ := one hx
    obtain ⟨bs, e, rfl⟩ := Option.map_eq_some_iff.mp hk
    obtain ⟨a, ys, rfl, hX, hxs⟩ := h1.getL
    rw [← hK] at hX
    cases toBls_rel hxs e
    exact cr_all hc pins s σ H _ us Q I rv ⟨a, bs, rfl, hX.sq, q.bl⟩
  · obtain ⟨x, rfl, h1⟩ := one hx
    obtain ⟨bs, e, rfl⟩ := Option.map_eq_some_iff.mp hk
    obtain ⟨a, ys, rfl, hX, hxs⟩ := h1.getL
    rw [← hK] at hX
    cases toBls_rel hxs e
    exact cr_any hc pins s σ H _ us Q I rv ⟨a, bs, rfl, hX.sq, q.bl⟩
  · obtain ⟨x, rfl, h1⟩ := one hx
    obtain ⟨ns, e, e2⟩ := Option.bind_eq_some_iff.mp hk
    unfold sortedD at e2
    split at e2
    · rename_i hcs
      cases e2
      obtain ⟨a, ys, rfl, hX, hxs⟩ := h1.getL
      rw [← hK] at hX
      cases toStrs_rel hxs e
      refine cr_sortedS pins s σ H _ us Q I rv ⟨a, ns, rfl, hX.sq, hcs.1, fun ys p hp hs np => ?_⟩
      have eq := strict_uniq hcs.2.1 (hp.trans (List.isPerm_iff.mp hcs.2.2).symm) hs
      subst eq
      exact q.lst (RDs.strs _) p np
    · cases e2
  · obtain ⟨x, rfl, h1⟩ := one hx
    rename_i kvs
    split at hk
    case isFalse => cases hk
    rename_i hnd
    unfold sortedD at hk
    split at hk
    · rename_i hcs
      cases hk
      obtain ⟨a, rfl, es, n, k1, k2, k3, kq, hz⟩ := h1.getK
      have D : L2.KDict X.K X.w a es n := ⟨by rw [hK]; exact k1, by rw [hP]; exact k2, k3⟩
      refine cr_sortedK hc D kq hnd hcs.1 pins s σ H _ us Q I rv ⟨rfl, fun ys p hp hs np => ?_⟩
      have eq := strict_uniq hcs.2.1 (hp.trans (List.isPerm_iff.mp hcs.2.2).symm) hs
      subst eq
      exact q.lst (RDs.strs _) p np
    · cases hk
  · obtain ⟨x, rfl, h1⟩ := one hx
    rename_i kvs
    obtain ⟨is, e, e2⟩ := Option.bind_eq_some_iff.mp hk
    split at e2
    · rename_i h64
      cases e2
      obtain ⟨a, xs, rfl, hX, hxs⟩ := h1.getD
      refine call_sortedDI hc pins s σ H _ us Q I rv ⟨a, xs, is, rfl, .inl hX, keysI_rel hxs e, h64, fun ys p hp hs np => ?_⟩
      have eq := sorted_uniq (hp.trans (sortI_perm is).symm) hs (sortI_sorted is)
      subst eq
      exact q.lst (RDs.ints _) p np
    · cases e2
  · obtain ⟨x, rfl, h1⟩ := one hx
    obtain ⟨kds, e, rfl⟩ := Option.map_eq_some_iff.mp hk
    obtain ⟨a, ys, rfl, hX, hxs⟩ := h1.getL
    rw [← hK] at hX
    obtain ⟨ps, kvs, rfl, hp, hk2⟩ := pairs_rel hxs e
    rw [← hK] at hp
    exact call_dictP hc pins s σ H _ us Q I rv ⟨a, ps, kvs, rfl, hX.sq, hp, q.dct (merge_rel hk2 .nil)⟩
  · obtain ⟨x, rfl, h1⟩ := one hx
    obtain ⟨es, e, rfl⟩ := Option.map_eq_some_iff.mp hk
    unfold seqOf at e
    split at e
    · obtain ⟨a, ys, rfl, hX, hxs⟩ := h1.getL
      rw [← hK] at hX
      cases e
      exact call_list_of pins s σ H _ us Q I rv ⟨a, ys, rfl, .inl hX.sq, q.lst hxs⟩
    · obtain ⟨a, ys, rfl, hX, hxs⟩ := h1.getT
      cases e
      rw [← hK] at hX
      exact call_list_of pins s σ H _ us Q I rv ⟨a, ys, rfl, .inr hX, q.lst hxs⟩
    · cases e
  · obtain ⟨x, rfl, h1⟩ := one hx
    obtain ⟨es, e, rfl⟩ := Option.map_eq_some_iff.mp hk
    unfold seqOf at e
    split at e
    · obtain ⟨a, ys, rfl, hX, hxs⟩ := h1.getL
      rw [← hK] at hX
      cases e
      exact call_tuple_of pins s σ H _ us Q I rv ⟨a, ys, rfl, .inl ⟨hX.sq, q.tup ob hxs⟩⟩
    · have h2 := h1
      obtain ⟨a, ys, rfl, hX, hxs⟩ := h1.getT
      cases e
      rw [← hK] at hX
      exact call_tuple_of pins s σ H _ us Q I rv ⟨a, ys, rfl, .inr ⟨hX, q _ _ _ (.same h2.tupSh)⟩⟩
    · cases e
  · obtain ⟨x, rfl, h1⟩ := one hx
    obtain ⟨n, en, e2⟩ := Option.bind_eq_some_iff.mp hk
    split at e2
    · rename_i hz
      cases h1.getS
      cases e2
      exact call_int_str pins s σ H _ us Q I rv ⟨_, n, rfl, en, hz, q.int⟩
    · cases e2
  · obtain ⟨x, rfl, h1⟩ := one hx
    cases h1.getS
    cases hk
    exact SkE.call_str_str pins s σ H _ us Q I rv ⟨_, rfl, q.str⟩
  · cases hk
theorem tru_rel (hK : X.K = g.K) {H : Hp} {O : AP1} {v : V} {d : D} {k : Bool} (h : RB g H O v d) (e : truD d = some k) : TruV X.K v H k := by
  unfold truD at e
  split at e
  · cases h.getN; cases e; rfl
  · cases h.getB; cases e; rfl
  · cases h.getI; cases e; rfl
  · split at e
    · rename_i hz
      cases h.getS; cases e
      exact ⟨by rw [← sizeL_eq]; exact hz, rfl⟩
    · cases e
  · obtain ⟨a, ys, rfl, hX, hxs⟩ := h.getL
    rw [← hK] at hX
    cases e
    exact .inl ⟨ys, hX.sq, by cases hxs <;> rfl⟩
  · obtain ⟨a, ys, rfl, hX, hxs⟩ := h.getT
    cases e
    rw [← hK] at hX
    exact .inr (.inl ⟨ys, hX, by cases hxs <;> rfl⟩)
  · obtain ⟨a, ys, rfl, hX, hxs⟩ := h.getD
    cases e
    exact .inr (.inr ⟨ys, hX, by cases hxs <;> rfl⟩)
  · cases e
end
end Wr
namespace Wr
open PySem PySem.Spec L2
open PyProof.Rows hiding St
/-- the frame that runs -/
structure CtxOk (g : Gm) (X : Cx) : Prop where
  hK : X.K = g.K
  hmg : X.mg = g.mg
  hP : X.w.params = g.prm
  calm : X.calm = true
  nd : X.N.Nodup
  gd : X.A.guards = some []
  un : X.A.units + 64 < cLine
def PlR (g : Gm) (H : Hp) (O : AP1) (σ : St) (v : V) : Pl → Prop
  | .v d => RD g H O v d
  | .s i => σ[i]? = some (some v)
def tE (g : Gm) (W : WX) (f : Rho → Re Rs) : TE := fun σ H Q => ∃ O ρ, StR g H O σ ρ ∧ RW W g σ ρ H O (f ρ) fun r ρ' => ∀ v H' O', Stp g σ ρ H O ρ' H' O' → RsR g H σ ρ' H' O' v r → Q v H'
def tP (g : Gm) (W : WX) (f : Rho → Re Pl) : TE := fun σ H Q => ∃ O ρ, StR g H O σ ρ ∧ RW W g σ ρ H O (f ρ) fun p ρ' => ∀ v H' O', Stp g σ ρ H O ρ' H' O' → PlR g H' O' σ v p → Q v H'
def tQ (g : Gm) (W : WX) (f : Rho → Re Bool) : TT := fun σ H Q => ∃ O ρ, StR g H O σ ρ ∧ RW W g σ ρ H O (f ρ) fun b ρ' => ∀ H' O', Stp g σ ρ H O ρ' H' O' → Q b H'
def tAs (g : Gm) (W : WX) (f : Rho → Re (List D)) : TA := fun σ H Q => ∃ O ρ, StR g H O σ ρ ∧ RW W g σ ρ H O (f ρ) fun ds ρ' => ∀ vs H' O', Stp g σ ρ H O ρ' H' O' → RDs g H' O' vs ds → Q vs H'
def tBs (g : Gm) (W : WX) (f : Rho → Re (List Pl)) : TA := fun σ H Q => ∃ O ρ, StR g H O σ ρ ∧ RW W g σ ρ H O (f ρ) fun ps ρ' => ∀ vs H' O', Stp g σ ρ H O ρ' H' O' → Paired (PlR g H' O' σ) vs ps → Q vs H'
/-- what return gives: made here, or a slot's own -/
def RtR (g : Gm) (H : Hp) (σ : St) (ρ ρ' : Rho) (H' : Hp) (O' : AP1) (v : V) : Rs → Prop
  | .sh d => RD g H' O' v d
  | .fr d => ∃ a, v = .ref a ∧ O' a ∧ ¬ Wn σ ρ' a ∧ Ob g H' O' a d ∧ (H a = none ∨ ∃ (i : Nat) (e : D), ρ[i]? = some (Sl.ow e) ∧ σ[i]? = some (some (.ref a)))
def tRt (g : Gm) (W : WX) (f : Rho → Re Rs) : TE := fun σ H Q => ∃ O ρ, StR g H O σ ρ ∧ RW W g σ ρ H O (f ρ) fun r ρ' => ∀ v H' O', Stp g σ ρ H O ρ' H' O' → RtR g H σ ρ ρ' H' O' v r → Q v H'
theorem peImp {X : Cx} {e : Expr} {t t' : TE} (h : PE X e t) (f : ∀ σ H Q, t' σ H Q → t σ H Q) : PE X e t' := ⟨fun pins s σ H Q I q => h.run pins s σ H Q I (f σ H Q q)⟩
theorem ptImp {X : Cx} {e : Expr} {t t' : TT} (h : PT X e t) (f : ∀ σ H Q, t' σ H Q → t σ H Q) : PT X e t' := ⟨fun pins s σ H Q I q => h.run pins s σ H Q I (f σ H Q q)⟩
theorem pwImp {X : Cx} {e : Expr} {t t' : TT} (h : PW X e t) (f : ∀ σ H Q, t' σ H Q → t σ H Q) : PW X e t' := ⟨fun wh pins s σ H Q I q => h.run wh pins s σ H Q I (f σ H Q q)⟩
theorem paImp {X : Cx} {e : List Expr} {t t' : TA} (h : PA X e t) (f : ∀ σ H Q, t' σ H Q → t σ H Q) : PA X e t' := ⟨fun pos pins s σ H Q I q => h.run pos pins s σ H Q I (f σ H Q q)⟩
section
variable {g : Gm} {W : WX} {σ : St} {ρ ρ1 ρ2 : Rho} {H H1 H2 : Hp} {O O1 O2 : AP1}
theorem PlR.stp {p : Pl} {v : V} (h : PlR g H O σ v p) (S : StR g H O σ ρ) (s : Stp g σ ρ H O ρ1 H1 O1) : PlR g H1 O1 σ v p := by
  cases p with
  | v d => exact s.rd S h
  | s i => exact h
theorem PlR.rb {p : Pl} {v : V} {d : D} (h : PlR g H O σ v p) (S : StR g H O σ ρ) (e : p.at ρ = some d) : RB g H O v d := by
  cases p with
  | v d' => cases e; exact .sh h
  | s i =>
    have e' : ρ[i]?.bind slD? = some d := e
    cases q : ρ[i]? with
    | none => rw [q] at e'; cases e'
    | some t =>
      rw [q] at e'
      have z := S.at_ i _ t h q
      cases z with
      | no => cases e'
      | sh r => cases e'; exact .sh r
      | ow _ b => cases e'; exact b.rb
      | io _ b => cases e'; exact b.rb
theorem RsR.base {v : V} {r : Rs} (h : RsR g H1 σ ρ2 H2 O2 v r) (f : ∀ b, H1 b = none → H b = none) : RsR g H σ ρ2 H2 O2 v r := by
  cases r with
  | sh d => exact h
  | fr d =>
    obtain ⟨a, e, n, r⟩ := h
    exact ⟨a, e, f _ n, r⟩
theorem RsR.rt {v : V} {r : Rs} (h : RsR g H σ ρ2 H2 O2 v r) : RtR g H σ ρ ρ2 H2 O2 v r := by
  cases r with
  | sh d => exact h
  | fr d =>
    obtain ⟨a, e, n, o, w, b⟩ := h
    exact ⟨a, e, o, w, b, .inl n⟩
variable {β : Type} {K : β → Rho → Prop}
theorem run_v {f : Rho → Re Rs} {k : Rs → Rho → Re β} {Q : VK} (S : StR g H O σ ρ) (h : RW W g σ ρ H O ((f ρ).bd k) K)
    (next : ∀ r ρ1 v H1 O1, Stp g σ ρ H O ρ1 H1 O1 → RsR g H σ ρ1 H1 O1 v r → RW W g σ ρ1 H1 O1 (k r ρ1) K → Q v H1) : tE g W f σ H Q :=
  ⟨O, ρ, S, (RW.bd h).imp fun r ρ1 h1 v H1 O1 s1 r1 => next r ρ1 v H1 O1 s1 r1 (h1.rebase s1)⟩
/-- .. the value shared -/
theorem run_s {f : Rho → Re Rs} {k : Rs → Rho → Re β} {Q : VK} (S : StR g H O σ ρ) (h : RW W g σ ρ H O ((f ρ).bd k) K)
    (next : ∀ r ρ1 v H1 O1, Stp g σ ρ H O ρ1 H1 O1 → RD g H1 O1 v r.d → RW W g σ ρ1 H1 O1 (k r ρ1) K → Q v H1) : tE g W f σ H Q :=
  ⟨O, ρ, S, (RW.bd h).imp fun r ρ1 h1 v H1 O1 s1 r1 => let ⟨O2, s2, r2⟩ := r1.share S s1; next r ρ1 v H1 O2 s2 r2 (h1.rebase s2)⟩
theorem run_p {f : Rho → Re Pl} {k : Pl → Rho → Re β} {Q : VK} (S : StR g H O σ ρ) (h : RW W g σ ρ H O ((f ρ).bd k) K)
    (next : ∀ p ρ1 v H1 O1, Stp g σ ρ H O ρ1 H1 O1 → PlR g H1 O1 σ v p → RW W g σ ρ1 H1 O1 (k p ρ1) K → Q v H1) : tP g W f σ H Q :=
  ⟨O, ρ, S, (RW.bd h).imp fun r ρ1 h1 v H1 O1 s1 r1 => next r ρ1 v H1 O1 s1 r1 (h1.rebase s1)⟩
theorem run_q {f : Rho → Re Bool} {k : Bool → Rho → Re β} {Q : Bool → Hp → Prop} (S : StR g H O σ ρ) (h : RW W g σ ρ H O ((f ρ).bd k) K)
    (next : ∀ b ρ1 H1 O1, Stp g σ ρ H O ρ1 H1 O1 → RW W g σ ρ1 H1 O1 (k b ρ1) K → Q b H1) : tQ g W f σ H Q :=
  ⟨O, ρ, S, (RW.bd h).imp fun r ρ1 h1 H1 O1 s1 => next r ρ1 H1 O1 s1 (h1.rebase s1)⟩
theorem run_as {f : Rho → Re (List D)} {k : List D → Rho → Re β} {Q : List V → Hp → Prop} (S : StR g H O σ ρ) (h : RW W g σ ρ H O ((f ρ).bd k) K)
    (next : ∀ ds ρ1 vs H1 O1, Stp g σ ρ H O ρ1 H1 O1 → RDs g H1 O1 vs ds → RW W g σ ρ1 H1 O1 (k ds ρ1) K → Q vs H1) : tAs g W f σ H Q :=
  ⟨O, ρ, S, (RW.bd h).imp fun r ρ1 h1 v H1 O1 s1 r1 => next r ρ1 v H1 O1 s1 r1 (h1.rebase s1)⟩
theorem run_bs {f : Rho → Re (List Pl)} {k : List Pl → Rho → Re β} {Q : List V → Hp → Prop} (S : StR g H O σ ρ) (h : RW W g σ ρ H O ((f ρ).bd k) K)
    (next : ∀ ds ρ1 vs H1 O1, Stp g σ ρ H O ρ1 H1 O1 → Paired (PlR g H1 O1 σ) vs ds → RW W g σ ρ1 H1 O1 (k ds ρ1) K → Q vs H1) : tBs g W f σ H Q :=
  ⟨O, ρ, S, (RW.bd h).imp fun r ρ1 h1 v H1 O1 s1 r1 => next r ρ1 v H1 O1 s1 r1 (h1.rebase s1)⟩
end
structure ES (g : Gm) (W : WX) (X : Cx) (e : Expr) (s : Sm) : Prop where
  v : PE X e (tE g W s.v)
  t : PT X e (tQ g W s.t)
  o : PE X e (tP g W s.o)
  r : PE X e (tRt g W s.r)
/-- the test of an expression is its value's truth -/
def PlainT (e : Expr) (env : Env) : Prop := ∀ whole, isTrue e env whole = (do let v ← whole; standAt e.pos; holding [v] (truthy v))
section
variable {g : Gm} {W : WX} {X : Cx} {e a b c : Expr} {pos : Pos} (C : CtxOk g X)
include C
theorem es_of {f : Rho → Re Rs} (h : PE X e (tE g W f)) (hp : PlainT e X.env) : ES g W X e (.of f) := by
  refine ⟨h, ?_, ?_, ?_⟩
  · refine ptImp (pt_truth h hp) fun σ H Q ⟨O, ρ, S, q⟩ => ?_
    refine run_s S q fun r ρ1 v H1 O1 s1 rv q1 => ?_
    obtain ⟨k, ek, qk⟩ := q1.of
    exact ⟨k, tru_rel C.hK (.sh rv) ek, qk H1 O1 s1⟩
  · refine peImp h fun σ H Q ⟨O, ρ, S, q⟩ => ?_
    exact run_s S q fun r ρ1 v H1 O1 s1 rv q1 => q1 v H1 O1 s1 rv
  · refine peImp h fun σ H Q ⟨O, ρ, S, q⟩ => ?_
    exact ⟨O, ρ, S, q.imp fun r ρ1 q1 v H1 O1 s1 rv => q1 v H1 O1 s1 rv.rt⟩
theorem es_vt {f : Rho → Re Rs} {t : Rho → Re Bool} (h : PE X e (tE g W f)) (ht : PT X e (tQ g W t)) : ES g W X e (.vt f t) := by
  refine ⟨h, ht, ?_, ?_⟩
  · refine peImp h fun σ H Q ⟨O, ρ, S, q⟩ => ?_
    exact run_s S q fun r ρ1 v H1 O1 s1 rv q1 => q1 v H1 O1 s1 rv
  · refine peImp h fun σ H Q ⟨O, ρ, S, q⟩ => ?_
    exact ⟨O, ρ, S, q.imp fun r ρ1 q1 v H1 O1 s1 rv => q1 v H1 O1 s1 rv.rt⟩
omit C in
theorem de_const {v : V} {d : D} (h : PE X e (tC v)) (r : ∀ H O, RD g H O v d) : PE X e (tE g W fun ρ => .ok (.sh d) ρ) :=
  peImp h fun σ H Q ⟨O, ρ, S, q⟩ => q v H O (.refl S) (r H O)
/-- an operation of two operands, by its rule -/
theorem de_op2 {fa fb : Rho → Re Pl} {k : D → D → Option Rs} (hop : ∀ {ta tb : TE}, PE X a ta → PE X b tb → PE X e (tOp (rD2 g k) ta tb)) (ha : PE X a (tP g W fa)) (hb : PE X b (tP g W fb)) :
    PE X e (tE g W (op2 fa fb fun x y ρ => .of (k x y) ρ)) := by
  refine peImp (hop ha hb) fun σ H Q ⟨O, ρ, S, q⟩ => ?_
  refine run_p S q fun p ρ1 x H1 O1 s1 px q1 => run_p s1.st q1 fun p' ρ2 y H2 O2 s2 py q2 => ?_
  split at q2
  · rename_i d e' e1 e2
    obtain ⟨r, er, qr⟩ := q2.of
    refine ⟨O2, d, e', r, s2.st.obj, (px.stp s1.st s2).rb s2.st e1, py.rb s2.st e2, er, fun v H' O' n => ?_⟩
    obtain ⟨s3, rv⟩ := n.stp s2.st
    exact qr v H' O' ((s1.trans s2).trans s3) (rv.base (s1.trans s2).fr.there)
  · exact q2.elim
theorem de_bin {fa fb : Rho → Re Pl} {op : Operator} (ha : PE X a (tP g W fa)) (hb : PE X b (tP g W fb)) : PE X (.BinOp a op b pos) (tE g W (op2 fa fb fun x y ρ => .of (binop op x y) ρ)) :=
  de_op2 C (fun h1 h2 => pe_op (opr_bin C.hK op) h1 h2) ha hb
theorem de_cmp {fa fb : Rho → Re Pl} {op : CmpOp} (ha : PE X a (tP g W fa)) (hb : PE X b (tP g W fb)) (hm : behindInMarks op b = false) :
    PE X (.Compare a [op] [b] pos) (tE g W (op2 fa fb fun x y ρ => .of ((cmpop op x y).map fun k => .sh (.bl k)) ρ)) := by
  refine peImp (pe_cmpR (opr_cmp C.hK C.hP C.un op) ha hb hm) fun σ H Q ⟨O, ρ, S, q⟩ => ?_
  refine run_p S q fun p ρ1 x H1 O1 s1 px q1 => run_p s1.st q1 fun p' ρ2 y H2 O2 s2 py q2 => ?_
  split at q2
  · rename_i d e' e1 e2
    obtain ⟨r, er, qr⟩ := q2.of
    obtain ⟨k, ek, rfl⟩ := Option.map_eq_some_iff.mp er
    exact ⟨O2, d, e', k, (px.stp s1.st s2).rb s2.st e1, py.rb s2.st e2, ek, qr _ H2 O2 (s1.trans s2) (.bl k)⟩
  · exact q2.elim
/-- a comparison, as a test -/
theorem dt_cmp {fa fb : Rho → Re Pl} {op : CmpOp} (ha : PE X a (tP g W fa)) (hb : PE X b (tP g W fb)) (hm : behindInMarks op b = false) :
    PT X (.Compare a [op] [b] pos) (tQ g W (Sm.of (op2 fa fb fun x y ρ => .of ((cmpop op x y).map fun k => .sh (.bl k)) ρ)).t) := by
  refine ptImp (pt_cmpR (opr_cmp C.hK C.hP C.un op) ha hb hm) fun σ H Q ⟨O, ρ, S, q⟩ => ?_
  have q := q.bd
  refine run_p S q fun p ρ1 x H1 O1 s1 px q1 => run_p s1.st q1 fun p' ρ2 y H2 O2 s2 py q2 => ?_
  split at q2
  · rename_i d e' e1 e2
    obtain ⟨r, er, qr⟩ := q2.of
    obtain ⟨k, ek, rfl⟩ := Option.map_eq_some_iff.mp er
    obtain ⟨k', ek', qk⟩ := qr.of
    cases ek'
    exact ⟨O2, d, e', k, (px.stp s1.st s2).rb s2.st e1, py.rb s2.st e2, ek, k, rfl, qk H2 O2 (s1.trans s2)⟩
  · exact q2.elim
theorem es_cmp {fa fb : Sm} {op : CmpOp} (ha : ES g W X a fa) (hb : ES g W X b fb) (hm : behindInMarks op b = false) :
    ES g W X (.Compare a [op] [b] pos) (.of (op2 fa.o fb.o fun x y ρ => .of ((cmpop op x y).map fun k => .sh (.bl k)) ρ)) := by
  have h := es_vt C (de_cmp (pos := pos) C ha.o hb.o hm) (dt_cmp (pos := pos) C ha.o hb.o hm)
  exact ⟨h.v, h.t, h.o, h.r⟩
theorem de_chain {fa fb fc : Rho → Re Pl} {o o' : CmpOp} (ha : PE X a (tP g W fa)) (hb : PE X b (tP g W fb)) (hc : PE X c (tP g W fc)) (hm : lastMarks [o, o'] [b, c] = false) :
    PE X (.Compare a [o, o'] [b, c] pos) (tE g W (chnV o o' fa fb fc)) := by
  refine peImp (pe_chain (opr_cmp C.hK C.hP C.un o) (opr_cmp C.hK C.hP C.un o') ha hb hc hm) fun σ H Q ⟨O, ρ, S, q⟩ => ?_
  refine run_p S q fun p ρ1 x H1 O1 s1 px q1 => run_p s1.st q1 fun p' ρ2 y H2 O2 s2 py q2 => ?_
  split at q2
  · rename_i d e' e1 e2
    split at q2
    · rename_i ec
      exact ⟨O2, d, e', _, (px.stp s1.st s2).rb s2.st e1, py.rb s2.st e2, ec, false, rfl, q2 _ H2 O2 (s1.trans s2) (.bl false)⟩
    · rename_i ec
      refine ⟨O2, d, e', _, (px.stp s1.st s2).rb s2.st e1, py.rb s2.st e2, ec, true, rfl, ?_⟩
      rw [if_pos rfl]
      refine run_p s2.st q2 fun p3 ρ3 z H3 O3 s3 pz q3 => ?_
      split at q3
      · rename_i y' z' e3 e4
        obtain ⟨r, er, qr⟩ := q3.of
        obtain ⟨k, ek, rfl⟩ := Option.map_eq_some_iff.mp er
        exact ⟨O3, y', z', k, (py.stp s2.st s3).rb s3.st e3, pz.rb s3.st e4, ek, qr _ H3 O3 ((s1.trans s2).trans s3) (.bl k)⟩
      · exact q3.elim
    · exact q2.elim
  · exact q2.elim
theorem dt_chain {fa fb fc : Rho → Re Pl} {o o' : CmpOp} (ha : PE X a (tP g W fa)) (hb : PE X b (tP g W fb)) (hc : PE X c (tP g W fc)) (hm : lastMarks [o, o'] [b, c] = false) :
    PT X (.Compare a [o, o'] [b, c] pos) (tQ g W (Sm.of (chnV o o' fa fb fc)).t) := by
  refine ptImp (pt_chain (opr_cmp C.hK C.hP C.un o) (opr_cmp C.hK C.hP C.un o') ha hb hc hm) fun σ H Q ⟨O, ρ, S, q⟩ => ?_
  have q := q.bd
  refine run_p S q fun p ρ1 x H1 O1 s1 px q1 => run_p s1.st q1 fun p' ρ2 y H2 O2 s2 py q2 => ?_
  split at q2
  · rename_i d e' e1 e2
    split at q2
    · rename_i ec
      obtain ⟨k', ek', qk⟩ := RW.of (RW.okE q2)
      cases ek'
      exact ⟨O2, d, e', _, (px.stp s1.st s2).rb s2.st e1, py.rb s2.st e2, ec, false, rfl, false, rfl, qk H2 O2 (s1.trans s2)⟩
    · rename_i ec
      refine ⟨O2, d, e', _, (px.stp s1.st s2).rb s2.st e1, py.rb s2.st e2, ec, true, rfl, ?_⟩
      rw [if_pos rfl]
      refine run_p s2.st q2 fun p3 ρ3 z H3 O3 s3 pz q3 => ?_
      split at q3
      · rename_i y' z' e3 e4
        obtain ⟨r, er, qr⟩ := q3.of
        obtain ⟨k, ek, rfl⟩ := Option.map_eq_some_iff.mp er
        obtain ⟨k', ek', qk⟩ := RW.of qr
        cases ek'
        exact ⟨O3, y', z', k, (py.stp s2.st s3).rb s3.st e3, pz.rb s3.st e4, ek, k, rfl, qk H3 O3 ((s1.trans s2).trans s3)⟩
      · exact q3.elim
    · exact q2.elim
  · exact q2.elim
theorem es_chain {fa fb fc : Sm} {o o' : CmpOp} (ha : ES g W X a fa) (hb : ES g W X b fb) (hc : ES g W X c fc) (hm : lastMarks [o, o'] [b, c] = false) :
    ES g W X (.Compare a [o, o'] [b, c] pos) (.of (chnV o o' fa.o fb.o fc.o)) := by
  have h := es_vt C (de_chain (pos := pos) C ha.o hb.o hc.o hm) (dt_chain (pos := pos) C ha.o hb.o hc.o hm)
  exact ⟨h.v, h.t, h.o, h.r⟩
omit C in
theorem de_op1 {fa : Rho → Re Pl} {op : UnaryOp} {k : D → Option Rs} {f : Int → Int} (ho : UnR X (unaryOp op) (rU fun i => .int (f i))) (hk : ∀ d r, k d = some r → ∃ i, d = .int i ∧ r = .sh (.int (f i))) (ha : PE X a (tP g W fa)) :
    PE X (.UnaryOp op a pos) (tE g W (op1 fa fun x ρ => .of (k x) ρ)) := by
  refine peImp (pe_un ho ha) fun σ H Q ⟨O, ρ, S, q⟩ => ?_
  refine run_p S q fun p ρ1 x H1 O1 s1 px q1 => ?_
  split at q1
  · rename_i d e1
    obtain ⟨r, er, qr⟩ := q1.of
    obtain ⟨i, rfl, rfl⟩ := hk _ _ er
    cases (px.rb s1.st e1).getI
    exact ⟨i, rfl, qr _ H1 O1 s1 (.int _)⟩
  · exact q1.elim
omit C in
theorem de_neg {fa : Rho → Re Pl} (ha : PE X a (tP g W fa)) : PE X (.UnaryOp .USub a pos) (tE g W (op1 fa fun x ρ => .of (negD x) ρ)) :=
  de_op1 un_neg (fun d r e => by cases d <;> first | (cases e; exact ⟨_, rfl, rfl⟩) | cases e) ha
omit C in
theorem de_inv {fa : Rho → Re Pl} (ha : PE X a (tP g W fa)) : PE X (.UnaryOp .Invert a pos) (tE g W (op1 fa fun x ρ => .of (invD x) ρ)) :=
  de_op1 un_inv (fun d r e => by cases d <;> first | (cases e; exact ⟨_, rfl, rfl⟩) | cases e) ha
theorem de_ix {fa fb : Rho → Re Pl} (ha : PE X a (tP g W fa)) (hb : PE X b (tP g W fb)) (hs : PlainIx b) : PE X (.Subscript a b pos) (tE g W (op2 fa fb fun x y ρ => .of ((ixD x y).map .sh) ρ)) := by
  refine peImp (pe_ix (ixr C.hK C.hP C.un) ha hb hs) fun σ H Q ⟨O, ρ, S, q⟩ => ?_
  refine run_p S q fun p ρ1 x H1 O1 s1 px q1 => run_p s1.st q1 fun p' ρ2 y H2 O2 s2 py q2 => ?_
  split at q2
  · rename_i d e' e1 e2
    obtain ⟨r, er, qr⟩ := q2.of
    obtain ⟨k, ek, rfl⟩ := Option.map_eq_some_iff.mp er
    exact ⟨O2, d, e', k, (px.stp s1.st s2).rb s2.st e1, py.rb s2.st e2, ek, fun v rv => qr _ H2 O2 (s1.trans s2) rv⟩
  · exact q2.elim
/-- an optional bound of a slice -/
def tOO (g : Gm) (W : WX) (f : Rho → Re (Option Int)) : TO := fun σ H Q => ∃ O ρ, StR g H O σ ρ ∧ RW W g σ ρ H O (f ρ) fun b ρ' => ∀ H' O', Stp g σ ρ H O ρ' H' O' → Q b H'
omit C in
theorem do_none : PO X none (tOO g W (evOp none)) := by
  have h := po_none (X := X)
  exact ⟨fun pins s σ H Q I ⟨O, ρ, S, q⟩ => h.run pins s σ H Q I (q H O (.refl S))⟩
omit C in
theorem do_some {f : Sm} (ha : PE X a (tE g W f.v)) : PO X (some a) (tOO g W (evOp (some f))) := by
  have h := po_some ha
  refine ⟨fun pins s σ H Q I ⟨O, ρ, S, q⟩ => h.run pins s σ H Q I (run_s S q fun r ρ1 v H1 O1 s1 rv q1 => ?_)⟩
  split at q1
  · rename_i i e
    rw [e] at rv
    cases rv
    exact ⟨i, rfl, q1 H1 O1 s1⟩
  · exact q1.elim
omit C in
theorem run_oo {σ : St} {ρ : Rho} {H : Hp} {O : AP1} {β : Type} {K : β → Rho → Prop} {f : Rho → Re (Option Int)} {k : Option Int → Rho → Re β} {Q : Option Int → Hp → Prop} (S : StR g H O σ ρ) (h : RW W g σ ρ H O ((f ρ).bd k) K)
    (next : ∀ b ρ1 H1 O1, Stp g σ ρ H O ρ1 H1 O1 → RW W g σ ρ1 H1 O1 (k b ρ1) K → Q b H1) : tOO g W f σ H Q :=
  ⟨O, ρ, S, (RW.bd h).imp fun r ρ1 h1 H1 O1 s1 => next r ρ1 H1 O1 s1 (h1.rebase s1)⟩
theorem de_sl {fa : Sm} {lo hi : Option Expr} {fl fh : Option Sm} {p2 : Pos} (ha : PE X a (tP g W fa.o)) (hl : PO X lo (tOO g W (evOp fl))) (hh : PO X hi (tOO g W (evOp fh))) :
    PE X (.Subscript a (.Slice lo hi none p2) pos) (tE g W (slV fa fl fh)) := by
  refine peImp (pe_slice (slr C.hK) ha hl hh) fun σ H Q ⟨O, ρ, S, q⟩ => ?_
  refine run_p S q fun p ρ1 x H1 O1 s1 px q1 => run_oo s1.st q1 fun l ρ2 H2 O2 s2 q2 => run_oo s2.st q2 fun h ρ3 H3 O3 s3 q3 => ?_
  split at q3
  · rename_i d e1
    obtain ⟨r, er, qr⟩ := q3.of
    refine ⟨O3, d, r, s3.st.obj, (px.stp s1.st (s2.trans s3)).rb s3.st e1, er, fun v H' O' n => ?_⟩
    obtain ⟨s4, rv⟩ := n.stp s3.st
    exact qr v H' O' (((s1.trans s2).trans s3).trans s4) (rv.base ((s1.trans s2).trans s3).fr.there)
  · exact q3.elim
omit C in
theorem de_ite {fc fa fb : Sm} (hc : PT X c (tQ g W fc.t)) (ha : PE X a (tE g W fa.v)) (hb : PE X b (tE g W fb.v)) :
    PE X (.IfExp c a b pos) (tE g W fun ρ => (fc.t ρ).bd fun t ρ1 => if t = true then fa.v ρ1 else fb.v ρ1) := by
  refine peImp (pe_ifExp hc ha hb) fun σ H Q ⟨O, ρ, S, q⟩ => ?_
  refine run_q S q fun t ρ1 H1 O1 s1 q1 => ?_
  cases t with
  | true =>
    rw [if_pos rfl] at q1 ⊢
    exact ⟨O1, ρ1, s1.st, q1.imp fun r ρ2 q2 v H2 O2 s2 rv => q2 v H2 O2 (s1.trans s2) (rv.base s1.fr.there)⟩
  | false =>
    rw [if_neg Bool.false_ne_true] at q1 ⊢
    exact ⟨O1, ρ1, s1.st, q1.imp fun r ρ2 q2 v H2 O2 s2 rv => q2 v H2 O2 (s1.trans s2) (rv.base s1.fr.there)⟩
omit C in
theorem dt_not {fa : Sm} (ha : PT X a (tQ g W fa.t)) : PT X (.UnaryOp .Not a pos) (tQ g W fun ρ => (fa.t ρ).bd fun c ρ1 => .ok (!c) ρ1) := by
  refine ptImp (pt_not ha) fun σ H Q ⟨O, ρ, S, q⟩ => ?_
  exact run_q S q fun t ρ1 H1 O1 s1 q1 => q1 H1 O1 s1
end
end Wr
namespace Wr
open PySem PySem.Spec L2
open PyProof.Rows hiding St
section
variable {g : Gm} {σ : St} {ρ ρ1 : Rho} {H H1 : Hp} {O O1 : AP1}
theorem Wn.set_no {i : Nat} {b : Addr} (h : Wn σ (ρ.set i .no) b) : Wn σ ρ b := by
  obtain ⟨j, s, e1, o, e2⟩ := h
  by_cases hj : i = j
  · subst hj
    by_cases hl : i < ρ.length
    · rw [List.getElem?_set_self hl] at e1; cases e1; cases o
    · rw [List.getElem?_eq_none (by simpa using hl)] at e1; cases e1
  · rw [List.getElem?_set_ne hj] at e1
    exact ⟨j, s, e1, o, e2⟩
theorem Wn.set_sh {i : Nat} {b : Addr} {s' : Sl} (hs : s'.own = false) (h : Wn σ (ρ.set i s') b) : Wn σ (ρ.set i .no) b := by
  obtain ⟨j, s, e1, o, e2⟩ := h
  by_cases hj : i = j
  · subst hj
    by_cases hl : i < ρ.length
    · rw [List.getElem?_set_self hl] at e1; cases e1; rw [hs] at o; cases o
    · rw [List.getElem?_eq_none (by simpa using hl)] at e1; cases e1
  · rw [List.getElem?_set_ne hj] at e1
    exact ⟨j, s, by rw [List.getElem?_set_ne hj]; exact e1, o, e2⟩
/-- a slot's own object is not another slot's -/
theorem Wn.set_ne {i : Nat} {a b : Addr} {s : Sl} (S : StR g H O σ ρ) (e : ρ[i]? = some s) (o : s.own = true) (ea : σ[i]? = some (some (.ref a))) (h : Wn σ (ρ.set i .no) b) : b ≠ a := by
  rintro rfl
  obtain ⟨j, t, e1, o1, e2⟩ := h
  by_cases hj : i = j
  · subst hj
    by_cases hl : i < ρ.length
    · rw [List.getElem?_set_self hl] at e1; cases e1; cases o1
    · rw [List.getElem?_eq_none (by simpa using hl)] at e1; cases e1
  · rw [List.getElem?_set_ne hj] at e1
    exact hj (S.one i j s t b e o e1 o1 ea e2)
theorem StR.set_no (S : StR g H O σ ρ) (i : Nat) : StR g H O σ (ρ.set i .no) := by
  refine ⟨by rw [List.length_set]; exact S.len, fun j v s e1 e2 => ?_, fun j k s t a e1 o1 e2 o2 f1 f2 => ?_, S.obj, S.tabs⟩
  · by_cases hj : i = j
    · subst hj
      by_cases hl : i < ρ.length
      · rw [List.getElem?_set_self hl] at e2; cases e2; exact .no
      · rw [List.getElem?_eq_none (by simpa using hl)] at e2; cases e2
    · rw [List.getElem?_set_ne hj] at e2
      exact S.at_ j v s e1 e2
  · have q : ∀ {j : Nat} {s : Sl}, (ρ.set i .no)[j]? = some s → s.own = true → ρ[j]? = some s := fun {j s} e o => by
      by_cases hj : i = j
      · subst hj
        by_cases hl : i < ρ.length
        · rw [List.getElem?_set_self hl] at e; cases e; cases o
        · rw [List.getElem?_eq_none (by simpa using hl)] at e; cases e
      · rwa [List.getElem?_set_ne hj] at e
    exact S.one j k s t a (q e1 o1) o1 (q e2 o2) o2 f1 f2
/-- a shared value into a slot (of the same frame's values) -/
theorem StR.set_sh {i : Nat} {d : D} (S : StR g H O σ ρ) (h : ∀ v, σ[i]? = some v → ∃ w, v = some w ∧ RD g H O w d) : StR g H O σ (ρ.set i (.sh d)) := by
  have S0 := S.set_no i
  refine ⟨by rw [List.length_set]; exact S.len, fun j v s e1 e2 => ?_, fun j k s t a e1 o1 e2 o2 f1 f2 => ?_, S.obj, S.tabs⟩
  · by_cases hj : i = j
    · subst hj
      by_cases hl : i < ρ.length
      · rw [List.getElem?_set_self hl] at e2; cases e2
        obtain ⟨w, rfl, r⟩ := h v e1
        exact .sh r
      · rw [List.getElem?_eq_none (by simpa using hl)] at e2; cases e2
    · rw [List.getElem?_set_ne hj] at e2
      exact S.at_ j v s e1 e2
  · have q : ∀ {j : Nat} {s : Sl}, (ρ.set i (.sh d))[j]? = some s → s.own = true → ρ[j]? = some s := fun {j s} e o => by
      by_cases hj : i = j
      · subst hj
        by_cases hl : i < ρ.length
        · rw [List.getElem?_set_self hl] at e; cases e; cases o
        · rw [List.getElem?_eq_none (by simpa using hl)] at e; cases e
      · rwa [List.getElem?_set_ne hj] at e
    exact S.one j k s t a (q e1 o1) o1 (q e2 o2) o2 f1 f2
theorem set_io {i : Nat} {s : Sl} {d : D} (e : ρ[i]? = some (.ow d)) : ∀ (j : Nat) (f : D), ρ[j]? = some (Sl.io f) → ∃ f' : D, (ρ.set i s)[j]? = some (Sl.io f') := fun j f q => by
  have hj : i ≠ j := fun z => by subst z; rw [e] at q; cases q
  exact ⟨f, by rw [List.getElem?_set_ne hj]; exact q⟩
/-- a slot's own object is given away -/
theorem StR.freeze {i : Nat} {d : D} (S : StR g H O σ ρ) (e : ρ[i]? = some (.ow d)) :
    ∃ a O', σ[i]? = some (some (.ref a)) ∧ Stp g σ ρ H O (ρ.set i (.sh d)) H O' ∧ RD g H O' (.ref a) d := by
  obtain ⟨v, ev, r⟩ := S.get e
  cases r with
  | ow oa ob =>
    rename_i a
    have sub : ∀ b, (O b ∧ b ≠ a) → O b := fun _ z => z.1
    have S0 : StR g H (fun b => O b ∧ b ≠ a) σ (ρ.set i .no) := (S.set_no i).anti sub fun b z => ⟨S.wn b z.set_no, Wn.set_ne S e rfl ev z⟩
    have rd : RD g H (fun b => O b ∧ b ≠ a) (.ref a) d := (ob.anti sub).sh fun z => z.2 rfl
    have S1 := S0.set_sh (i := i) (d := d) fun v q => by rw [ev] at q; cases q; exact ⟨_, rfl, rd⟩
    rw [List.set_set] at S1
    refine ⟨a, _, ev, ⟨⟨fun _ _ q _ _ => q, fun _ _ q => q, fun _ q => q, fun b z n => ⟨z, fun q => n ⟨i, _, e, rfl, by rw [q]; exact ev⟩⟩, fun b z => .inl z.1⟩, S1, fun b z => (Wn.set_sh rfl z).set_no, set_io e⟩, rd⟩
end
section
variable {g : Gm} {W : WX} {X : Cx} {e a b c : Expr} {pos : Pos} (C : CtxOk g X)
theorem slot_rb {σ : St} {ρ : Rho} {H : Hp} {O : AP1} {i : Nat} {d : D} (S : StR g H O σ ρ) (e : ρ[i]?.bind slD? = some d) : ∃ v, σ[i]? = some (some v) ∧ RB g H O v d := by
  cases q : ρ[i]? with
  | none => rw [q] at e; cases e
  | some s =>
    rw [q] at e
    obtain ⟨v, ev, r⟩ := S.get q
    cases r with
    | no => cases e
    | sh r => cases e; exact ⟨_, ev, .sh r⟩
    | ow _ b => cases e; exact ⟨_, ev, b.rb⟩
    | io _ b => cases e; exact ⟨_, ev, b.rb⟩
include C
theorem es_var {i : Nat} {x : Str} (hN : X.N[i]? = some x) (hv : Vis X.env.scope x) (hd : (x == ("__debug__" : Str)) = false) (hcd : (x == ("__classdict__" : Str)) = false) : ES g W X (.Name x pos) (smVar i) := by
  have h : PE X (.Name x pos) (tVar i) := pe_var hN hv hd hcd
  refine ⟨peImp h fun σ H Q ⟨O, ρ, S, q⟩ => ?_, ptImp (pt_truth h fun _ => rfl) fun σ H Q ⟨O, ρ, S, q⟩ => ?_, peImp h fun σ H Q ⟨O, ρ, S, q⟩ => ?_, peImp h fun σ H Q ⟨O, ρ, S, q⟩ => ?_⟩
  · simp only [smVar, rdVar] at q
    split at q
    · rename_i d e
      obtain ⟨v, ev, r⟩ := S.get e
      cases r with | sh r => exact ⟨_, ev, q _ H O (.refl S) r⟩
    · rename_i d e
      obtain ⟨a, O', ev, s, r⟩ := S.freeze e
      exact ⟨_, ev, q _ H O' s r⟩
    · exact q.elim
  · simp only [smVar] at q
    split at q
    · rename_i d e
      obtain ⟨k, ek, qk⟩ := q.of
      obtain ⟨v, ev, r⟩ := slot_rb S e
      exact ⟨v, ev, k, tru_rel C.hK r ek, qk H O (.refl S)⟩
    · exact q.elim
  · simp only [smVar] at q
    split at q
    · rename_i d e
      obtain ⟨v, ev, r⟩ := slot_rb S e
      exact ⟨v, ev, q v H O (.refl S) ev⟩
    · exact q.elim
  · simp only [smVar] at q
    split at q
    · rename_i d e
      obtain ⟨v, ev, r⟩ := S.get e
      cases r with | sh r => exact ⟨_, ev, q _ H O (.refl S) r⟩
    · rename_i d e
      obtain ⟨v, ev, r⟩ := S.get e
      cases r with
      | ow oa ob =>
        have n := fun z => Wn.set_ne S e rfl ev z rfl
        exact ⟨_, ev, q _ H O ⟨.refl _ _ _, S.set_no i, fun b z => z.set_no, set_io e⟩ ⟨_, rfl, oa, n, ob, .inr ⟨i, d, e, ev⟩⟩⟩
    · exact q.elim
/-- a def of the module, as a value -/
theorem de_fnc {x : Str} {f : Addr} (hg : Gl X x) (hm : X.mg x = some (.ref f)) (hd : (x == ("__debug__" : Str)) = false) : PE X (.Name x pos) (tE g W fun ρ => .ok (.sh (.fnc x)) ρ) :=
  de_const (v := .ref f) (pe_glob hg hm rfl hd) fun _ _ => .fnc (by rw [← C.hmg]; exact hm)
def bopOf (k : Bool) : BoolOp := if k = true then .And else .Or
theorem dw_one {k : Bool} {s : Sm} (ha : PT X a (tQ g W s.t)) : PW X (.BoolOp (bopOf k) [a] pos) (tQ g W (evTo k [s])) := by
  cases k with
  | true => exact pw_and1 ha
  | false => exact pw_or1 ha
theorem dw_cons {k : Bool} {s s' : Sm} {ss : List Sm} {rest : List Expr} (ha : PT X a (tQ g W s.t)) (hb : PW X (.BoolOp (bopOf k) (b :: rest) pos) (tQ g W (evTo k (s' :: ss)))) :
    PW X (.BoolOp (bopOf k) (a :: b :: rest) pos) (tQ g W (evTo k (s :: s' :: ss))) := by
  cases k with
  | true =>
    refine pwImp (pw_and ha hb) fun σ H Q ⟨O, ρ, S, q⟩ => ?_
    refine run_q S q fun t ρ1 H1 O1 s1 q1 => ?_
    cases t with
    | true =>
      rw [if_pos rfl] at q1 ⊢
      exact ⟨O1, ρ1, s1.st, q1.imp fun c ρ2 q2 H2 O2 s2 => q2 H2 O2 (s1.trans s2)⟩
    | false =>
      rw [if_neg Bool.false_ne_true] at q1 ⊢
      exact q1 H1 O1 s1
  | false =>
    refine pwImp (pw_or ha hb) fun σ H Q ⟨O, ρ, S, q⟩ => ?_
    refine run_q S q fun t ρ1 H1 O1 s1 q1 => ?_
    cases t with
    | false =>
      rw [if_pos rfl] at q1
      rw [if_neg Bool.false_ne_true]
      exact ⟨O1, ρ1, s1.st, q1.imp fun c ρ2 q2 H2 O2 s2 => q2 H2 O2 (s1.trans s2)⟩
    | true =>
      rw [if_neg (by decide)] at q1
      rw [if_pos rfl]
      exact q1 H1 O1 s1
theorem do_one {k : Bool} {s : Sm} (ha : PE X a (tE g W s.v)) : PE X (.BoolOp (bopOf k) [a] pos) (tE g W (evO k [s])) := pe_one ha
theorem do_cons {k : Bool} {s s' : Sm} {ss : List Sm} {rest : List Expr} (ha : PE X a (tE g W s.v)) (hb : PE X (.BoolOp (bopOf k) (b :: rest) pos) (tE g W (evO k (s' :: ss)))) :
    PE X (.BoolOp (bopOf k) (a :: b :: rest) pos) (tE g W (evO k (s :: s' :: ss))) := by
  cases k with
  | true =>
    refine peImp (pe_and ha hb) fun σ H Q ⟨O, ρ, S, q⟩ => ?_
    refine run_s S q fun r ρ1 v H1 O1 s1 rv q1 => ?_
    split at q1
    · rename_i c ec
      rw [ec] at rv
      cases rv
      refine ⟨c, rfl, ?_⟩
      cases c with
      | true =>
        rw [if_pos rfl] at q1 ⊢
        exact ⟨O1, ρ1, s1.st, q1.imp fun c ρ2 q2 v H2 O2 s2 rv => q2 v H2 O2 (s1.trans s2) (rv.base s1.fr.there)⟩
      | false =>
        rw [if_neg Bool.false_ne_true] at q1 ⊢
        exact q1 _ H1 O1 s1 (.bl false)
    · exact q1.elim
  | false =>
    refine peImp (pe_or ha hb) fun σ H Q ⟨O, ρ, S, q⟩ => ?_
    refine run_s S q fun r ρ1 v H1 O1 s1 rv q1 => ?_
    split at q1
    · rename_i c ec
      rw [ec] at rv
      cases rv
      refine ⟨c, rfl, ?_⟩
      cases c with
      | false =>
        rw [if_pos rfl] at q1
        rw [if_neg Bool.false_ne_true]
        exact ⟨O1, ρ1, s1.st, q1.imp fun c ρ2 q2 v H2 O2 s2 rv => q2 v H2 O2 (s1.trans s2) (rv.base s1.fr.there)⟩
      | true =>
        rw [if_neg (by decide)] at q1
        rw [if_pos rfl]
        exact q1 _ H1 O1 s1 (.bl true)
    · exact q1.elim
theorem unr_not : UnR X (unaryOp .Not) (fun x H Q => ∃ O d k, RB g H O x d ∧ truD d = some k ∧ Q (.bl (!k)) H) := by
  intro pins s σ H x v Q I rx h
  obtain ⟨O, d, k, hd, e, q⟩ := h
  exact not_of (thn (tru_ok pins s σ H x v (fun b H' => b = k ∧ H' = H) I rx ⟨k, tru_rel C.hK hd e, rfl, rfl⟩) fun b s1 ⟨H', I1, e1, e2⟩ => by
    subst e1 e2
    exact ⟨.bl _, H', I1, rfl, q⟩)
theorem de_not {fa : Rho → Re Pl} (ha : PE X a (tP g W fa)) : PE X (.UnaryOp .Not a pos) (tE g W (op1 fa fun x ρ => .of (notD x) ρ)) := by
  refine peImp (pe_un (unr_not C) ha) fun σ H Q ⟨O, ρ, S, q⟩ => ?_
  refine run_p S q fun p ρ1 x H1 O1 s1 px q1 => ?_
  split at q1
  · rename_i d e1
    obtain ⟨r, er, qr⟩ := q1.of
    obtain ⟨k, ek, rfl⟩ := Option.map_eq_some_iff.mp er
    exact ⟨O1, d, k, px.rb s1.st e1, ek, qr _ H1 O1 s1 (.bl _)⟩
  · exact q1.elim
end
def NotStar (e : Expr) : Prop := ∀ es env, starEach (e :: es) env = (false, eval e env) :: starEach es env
structure AS (g : Gm) (W : WX) (X : Cx) (e : Expr) (s : Sm) : Prop where
  es : ES g W X e s
  ns : NotStar e
section
variable {g : Gm} {W : WX} {X : Cx} {pos : Pos}
theorem pas_es : ∀ {es : List Expr} {ss : List Sm}, Paired (AS g W X) es ss → PA X es (tAs g W (evEs ss))
  | [], _, .nil => paImp pa_nil fun σ H Q ⟨O, ρ, S, q⟩ => q [] H O (.refl S) .nil
  | e :: es, _, .cons h hs => by
    refine paImp (pa_cons h.es.v (pas_es hs) (h.ns es _)) fun σ H Q ⟨O, ρ, S, q⟩ => ?_
    refine run_s S q fun r ρ1 v H1 O1 s1 rv q1 => run_as s1.st q1 fun ds ρ2 vs H2 O2 s2 rvs q2 => ?_
    exact q2 (v :: vs) H2 O2 (s1.trans s2) (.cons (s2.rd s1.st rv) rvs)
theorem pas_bs : ∀ {es : List Expr} {ss : List Sm}, Paired (AS g W X) es ss → PA X es (tBs g W (evBs ss))
  | [], _, .nil => paImp pa_nil fun σ H Q ⟨O, ρ, S, q⟩ => q [] H O (.refl S) .nil
  | e :: es, _, .cons h hs => by
    refine paImp (pa_cons h.es.o (pas_bs hs) (h.ns es _)) fun σ H Q ⟨O, ρ, S, q⟩ => ?_
    refine run_p S q fun r ρ1 v H1 O1 s1 rv q1 => run_bs s1.st q1 fun ds ρ2 vs H2 O2 s2 rvs q2 => ?_
    exact q2 (v :: vs) H2 O2 (s1.trans s2) (.cons (rv.stp s1.st s2) rvs)
theorem no_star : ∀ {es : List Expr} {ss : List Sm}, Paired (AS g W X) es ss → ∀ (pos : Pos) (env : Env), (backTo pos (starEach es env)).any (·.1) = false
  | [], _, .nil, _, _ => rfl
  | e :: es, _, .cons h hs, pos, env => by
    have z := no_star hs pos env
    unfold backTo at z ⊢
    rw [h.ns es env, List.map_cons, List.any_cons, z]
    rfl
variable {es : List Expr} {ss : List Sm}
theorem de_tup {x1 : Nat} (h : Paired (AS g W X) es ss) : PE X (.Tuple es x1 pos) (tE g W fun ρ => (evEs ss ρ).bd fun ds ρ1 => if ds.length ≤ sizeL then .ok (.sh (.tup ds)) ρ1 else .st) := by
  refine peImp (pe_tup (pas_es h)) fun σ H Q ⟨O, ρ, S, q⟩ => ?_
  refine run_as S q fun ds ρ1 vs H1 O1 s1 rvs q1 => ?_
  split at q1
  · rename_i hz
    refine ⟨by rw [rvs.len, ← sizeL_eq]; exact hz, Mk1.tup (g := g) (O := O1) (ds := ds) s1.st.obj rvs fun v H' O' n => ?_⟩
    obtain ⟨s2, rv⟩ := n.stp s1.st
    exact q1 v H' O' (s1.trans s2) rv
  · exact q1.elim
theorem seq_of_rd {H : Hp} {O : AP1} {v : V} {d : D} {xs : List D} (h : RD g H O v d) (e : seqOf d = some xs) : ∃ p ys, v = .ref p ∧ (SqT g.K H p ys ∨ SqL g.K H p ys) ∧ RDs g H O ys xs := by
  unfold seqOf at e
  split at e
  · cases e
    cases h with
    | lst h hs => exact ⟨_, _, rfl, .inr h.sq, hs⟩
  · cases e
    cases h with
    | tup h hs => exact ⟨_, _, rfl, .inl h.sq, hs⟩
  · cases e
theorem pas_st (hK : X.K = g.K) {e : Expr} {s : Sm} {p : Pos} (he : ES g W X e s) : ∀ {es : List Expr} {ss : List Sm}, Paired (AS g W X) es ss → PA X (es ++ [.Starred e p]) (tAs g W (evSt ss s))
  | [], _, .nil => by
    refine paImp (StX.pa_star he.v pa_nil) fun σ H Q ⟨O, ρ, S, q⟩ => ?_
    refine run_s S q fun r ρ1 v H1 O1 s1 rv q1 => ?_
    split at q1
    · rename_i xs ex
      obtain ⟨b, ys, rfl, h1, h2⟩ := seq_of_rd rv ex
      rw [← hK] at h1
      refine ⟨b, ys, rfl, h1, ?_⟩
      show Q (ys ++ []) H1
      rw [List.append_nil]
      exact q1 ys H1 O1 s1 h2
    · exact q1.elim
  | a :: es, _, .cons h hs => by
    refine paImp (pa_cons h.es.v (pas_st hK he hs) (h.ns (es ++ [.Starred e p]) _)) fun σ H Q ⟨O, ρ, S, q⟩ => ?_
    refine run_s S q fun r ρ1 v H1 O1 s1 rv q1 => run_as s1.st q1 fun ds ρ2 vs H2 O2 s2 rvs q2 => ?_
    exact q2 (v :: vs) H2 O2 (s1.trans s2) (.cons (s2.rd s1.st rv) rvs)
theorem de_tupS (hK : X.K = g.K) {x1 : Nat} {e : Expr} {s : Sm} {p : Pos} (he : ES g W X e s) (h : Paired (AS g W X) es ss) : PE X (.Tuple (es ++ [.Starred e p]) x1 pos) (tE g W fun ρ => (evSt ss s ρ).bd fun ds ρ1 => if ds.length ≤ sizeL then .ok (.sh (.tup ds)) ρ1 else .st) := by
  refine peImp (pe_tup (pas_st hK he h)) fun σ H Q ⟨O, ρ, S, q⟩ => ?_
  refine run_as S q fun ds ρ1 vs H1 O1 s1 rvs q1 => ?_
  split at q1
  · rename_i hz
    refine ⟨by rw [rvs.len, ← sizeL_eq]; exact hz, Mk1.tup (g := g) (O := O1) (ds := ds) s1.st.obj rvs fun v H' O' n => ?_⟩
    obtain ⟨s2, rv⟩ := n.stp s1.st
    exact q1 v H' O' (s1.trans s2) rv
  · exact q1.elim
theorem de_lst (h : Paired (AS g W X) es ss) : PE X (.List es pos) (tE g W fun ρ => (evEs ss ρ).bd fun ds ρ1 => if ds.length ≤ sizeL then .ok (.fr (.lst ds)) ρ1 else .st) := by
  refine peImp (pe_lst (pas_es h)) fun σ H Q ⟨O, ρ, S, q⟩ => ?_
  refine run_as S q fun ds ρ1 vs H1 O1 s1 rvs q1 => ?_
  split at q1
  · rename_i hz
    refine ⟨by rw [rvs.len, ← sizeL_eq]; exact hz, Mk1.lst (g := g) (O := O1) (ds := ds) rvs fun v H' O' n => ?_⟩
    obtain ⟨s2, rv⟩ := n.stp s1.st
    exact q1 v H' O' (s1.trans s2) (rv.base s1.fr.there)
  · exact q1.elim
theorem pas_sf (hK : X.K = g.K) {e : Expr} {s : Sm} {p : Pos} (he : ES g W X e s) (h : Paired (AS g W X) es ss) : PA X (.Starred e p :: es) (tAs g W (evSf s ss)) := by
  refine paImp (StX.pa_star he.v (pas_es h)) fun σ H Q ⟨O, ρ, S, q⟩ => ?_
  refine run_s S q fun r ρ1 v H1 O1 s1 rv q1 => ?_
  split at q1
  · rename_i xs ex
    obtain ⟨b, ys, rfl, h1, h2⟩ := seq_of_rd rv ex
    rw [← hK] at h1
    exact ⟨b, ys, rfl, h1, run_as s1.st q1 fun ds ρ2 vs H2 O2 s2 rvs q2 => q2 (ys ++ vs) H2 O2 (s1.trans s2) ((s2.rds s1.st h2).append rvs)⟩
  · exact q1.elim
theorem de_lstS (hK : X.K = g.K) {e : Expr} {s : Sm} {p : Pos} (he : ES g W X e s) (h : Paired (AS g W X) es ss) : PE X (.List (.Starred e p :: es) pos) (tE g W fun ρ => (evSf s ss ρ).bd fun ds ρ1 => if ds.length ≤ sizeL then .ok (.fr (.lst ds)) ρ1 else .st) := by
  refine peImp (pe_lst (pas_sf hK he h)) fun σ H Q ⟨O, ρ, S, q⟩ => ?_
  refine run_as S q fun ds ρ1 vs H1 O1 s1 rvs q1 => ?_
  split at q1
  · rename_i hz
    refine ⟨by rw [rvs.len, ← sizeL_eq]; exact hz, Mk1.lst (g := g) (O := O1) (ds := ds) rvs fun v H' O' n => ?_⟩
    obtain ⟨s2, rv⟩ := n.stp s1.st
    exact q1 v H' O' (s1.trans s2) (rv.base s1.fr.there)
  · exact q1.elim
theorem firstMet_all (ns : List Int) : PyProof.Rows.firstMet (fun i => ns.getD i 0) ns.length = dedI ns := by
  have e : (List.range ns.length).map (fun i => ns.getD i 0) = ns := by
    refine List.ext_getElem (by simp) fun i h1 h2 => ?_
    simp [List.getD_eq_getElem?_getD, List.getElem?_eq_getElem h2]
  unfold PyProof.Rows.firstMet dedI
  rw [e]
/-- len(set(xs)) of ints -/
theorem pe_lenS {a : Expr} {ta : TE} {p p2 q pos : Pos} (hc : X.calm = true) (hg : Gl X "len") (hm : X.mg "len" = none) (hg2 : Gl X "set") (hm2 : X.mg "set" = none) (ha : PE X a ta) (na : starEach [a] X.env = (false, eval a X.env) :: starEach [] X.env) :
    PE X (.Call (.Name "len" p) [.Call (.Name "set" p2) [a] [] q] [] pos) (fun σ H Q => ta σ H fun x H1 => ∃ (l : Addr) (ns : List Int), x = .ref l ∧ SqL X.K H1 l (ns.map V.int) ∧ ns.length ≤ 4000 ∧ Q (.int ((dedI ns).length : Nat)) H1) :=
  ⟨fun pins s σ H Q I h => Call_ (ld_blt I hg hm boot_len (PyProof.Rows.callWith_builtin1 (PyProof.Rows.args_cons (Call_ (ld_blt I hg2 hm2 boot_set (PyProof.Rows.callWith_type1
    (PyProof.Rows.args_cons (thn (ha.run pins s σ H _ I h) fun u s1 ⟨x, H1, I1, ru, l, ns, ex, hl, h4, hq⟩ => PyProof.Rows.args_nil (by
      subst ex
      cases ru
      obtain ⟨us, ru, pl, _⟩ := I1.list hl
      have len : us.toArray.size = ns.length := by rw [List.size_toArray, ← ru.length, List.length_map]
      refine call_set_list (I1.ok.hd hc) pl.isList (by simpa using RZ.intsAre_vals ru) (by rw [len]; unfold scanBound; omega) fun h2 tk new old => PyProof.Rows.args_nil ?_
      rw [len, firstMet_all] at new
      obtain ⟨ob, es, ep, tb, gt, exact_, dt, _, _, _, ft, en⟩ := new
      have I2 : Inv X pins σ H1 { s1 with heap := h2, toks := tk } := I1.kept fun b o e => old b o (Heap.lt_size e) e
      have small : (dedI ns).length ≤ ns.length := by
        rw [← firstMet_all]
        exact PyProof.Rows.firstMet_length_le _ _
      exact call_len_set gt exact_ dt ft (by rw [en]; omega) ⟨.int (dedI ns).length, H1, I2.tok _, ⟨_, by rw [en]⟩, hq⟩)) na) na rfl))) rfl) rfl rfl))⟩
theorem de_lnS (C : CtxOk g X) {e : Expr} {s : Sm} {p p2 q : Pos} (hg : Gl X "len") (hm : X.mg "len" = none) (hg2 : Gl X "set") (hm2 : X.mg "set" = none) (he : AS g W X e s) :
    PE X (.Call (.Name "len" p) [.Call (.Name "set" p2) [e] [] q] [] pos) (tE g W fun ρ => (s.v ρ).bd fun r ρ1 => .of (lnSD r.d) ρ1) := by
  refine peImp (pe_lenS C.calm hg hm hg2 hm2 he.es.v (he.ns _ _)) fun σ H Q ⟨O, ρ, S, q⟩ => ?_
  refine run_s S q fun r ρ1 v H1 O1 s1 rv q1 => ?_
  obtain ⟨o, eo, qr⟩ := q1.of
  unfold lnSD at eo
  split at eo
  · rename_i xs ed
    rw [ed] at rv
    obtain ⟨ns, en, e2⟩ := Option.bind_eq_some_iff.mp eo
    split at e2
    · rename_i h4
      cases e2
      cases rv with
      | lst h hs =>
        cases toInts_rel hs en
        exact ⟨_, ns, rfl, by rw [C.hK]; exact h.sq, h4, qr _ H1 O1 s1 (.int _)⟩
    · cases e2
  · cases eo
/-- the keys of a display: texts -/
inductive KyS : List (Option Expr) → List Str → Prop where
  | nil : KyS [] []
  | cons {x : Str} {j : Nat} {p : Pos} {ks : List (Option Expr)} {xs : List Str} : KyS ks xs → KyS (some (.Constant (.str x) j p) :: ks) (x :: xs)
def trsOf (g : Gm) (W : WX) : List Str → List Sm → List (TE × TE)
  | x :: xs, s :: ss => (tC (.str x), tE g W s.v) :: trsOf g W xs ss
  | _, _ => []
theorem pps_of : ∀ {ks : List (Option Expr)} {xs : List Str} {es : List Expr} {ss : List Sm}, KyS ks xs → Paired (AS g W X) es ss → xs.length = es.length → PPs X pos ks es (trsOf g W xs ss)
  | _, _, _, _, .nil, .nil, _ => pps_nil
  | _, _, _, _, .cons h, .cons a as, e => pps_cons pe_str a.es.v (pps_of h as (by simpa using e))
  | _, _, _, _, .nil, .cons _ _, e => by cases e
  | _, _, _, _, .cons _, .nil, e => by cases e
theorem pairs_run {σ : St} {β : Type} {Kp : β → Rho → Prop} : ∀ {xs : List Str} {ss : List Sm} {ρ : Rho} {H : Hp} {O : AP1} {k : List D → Rho → Re β} {Q : List (V × V) → Hp → Prop}, xs.length = ss.length → StR g H O σ ρ → RW W g σ ρ H O ((evEs ss ρ).bd k) Kp →
    (∀ ds ρ1 vs H1 O1, Stp g σ ρ H O ρ1 H1 O1 → RDs g H1 O1 vs ds → xs.length = vs.length → RW W g σ ρ1 H1 O1 (k ds ρ1) Kp → Q (List.zipWith (fun x v => (V.str x, v)) xs vs) H1) → tPairs (trsOf g W xs ss) σ H Q
  | [], [], ρ, H, O, k, Q, _, S, q, n => n [] ρ [] H O (.refl S) .nil rfl q
  | x :: xs, s :: ss, ρ, H, O, k, Q, e, S, q, n => by
    have q' : RW W g σ ρ H O ((s.v ρ).bd fun r ρ1 => (evEs ss ρ1).bd fun ds ρ2 => k (r.d :: ds) ρ2) Kp := by
      have e1 : (evEs (s :: ss) ρ).bd k = ((s.v ρ).bd fun r ρ1 => (evEs ss ρ1).bd fun ds ρ2 => k (r.d :: ds) ρ2) := by
        show ((s.v ρ).bd fun r ρ1 => (evEs ss ρ1).bd fun ds ρ2 => Re.ok (r.d :: ds) ρ2).bd k = _
        cases s.v ρ with
        | ok r ρ1 =>
          show ((evEs ss ρ1).bd fun ds ρ2 => Re.ok (r.d :: ds) ρ2).bd k = (evEs ss ρ1).bd fun ds ρ2 => k (r.d :: ds) ρ2
          cases evEs ss ρ1 <;> rfl
        | ex _ _ => rfl
        | st => rfl
      rw [← e1]
      exact q
    refine (show tC (.str x) σ H fun y H1 => tE g W s.v σ H1 fun z H2 => tPairs (trsOf g W xs ss) σ H2 fun ps H3 => Q ((y, z) :: ps) H3 from ?_)
    refine run_s S q' fun r ρ1 v H1 O1 s1 rv q1 => ?_
    refine pairs_run (k := fun ds ρ2 => k (r.d :: ds) ρ2) (by simpa using e) s1.st q1 fun ds ρ2 vs H2 O2 s2 rvs le q2 => ?_
    exact n (r.d :: ds) ρ2 (v :: vs) H2 O2 (s1.trans s2) (.cons (s2.rd s1.st rv) rvs) (by simp [le]) q2
  | [], _ :: _, _, _, _, _, _, e, _, _, _ => by cases e
  | _ :: _, [], _, _, _, _, _, e, _, _, _ => by cases e
theorem rdk_of {H : Hp} {O : AP1} : ∀ {xs : List Str} {vs : List V} {ds : List D}, RDs g H O vs ds → RDk g H O (List.zipWith (fun x v => ((Sum.inr x : Key), v)) xs vs) (dctD xs ds)
  | [], _, _, _ => .nil
  | _ :: _, _, _, .nil => .nil
  | _ :: _, _, _, .cons h hs => .cons h (rdk_of hs)
theorem merge_of : ∀ (xs : List Str) (vs : List V) (acc : List (Key × V)), (∀ x ∈ xs, ∀ p ∈ acc, p.1 ≠ .inr x) → xs.Nodup → mergeK acc (List.zipWith (fun x v => ((Sum.inr x : Key), v)) xs vs) = acc ++ List.zipWith (fun x v => ((Sum.inr x : Key), v)) xs vs
  | [], _, acc, _, _ => by simp [mergeK]
  | _ :: _, [], acc, _, _ => by simp [mergeK]
  | x :: xs, v :: vs, acc, h, nd => by
    have e1 : putK acc (Sum.inr x : Key) v = acc ++ [(Sum.inr x, v)] := by
      unfold putK
      rw [if_neg]
      intro z
      obtain ⟨p, hp, e⟩ := List.any_eq_true.mp z
      exact h x List.mem_cons_self p hp (of_decide_eq_true e)
    show mergeK (putK acc (Sum.inr x) v) (List.zipWith _ xs vs) = acc ++ ((Sum.inr x, v) :: List.zipWith _ xs vs)
    rw [e1, merge_of xs vs _ (fun y hy p hp => ?_) (List.nodup_cons.mp nd).2, List.append_assoc]
    · rfl
    · rcases List.mem_append.mp hp with hp | hp
      · exact h y (List.mem_cons_of_mem _ hy) p hp
      · rw [List.mem_singleton] at hp
        subst hp
        intro z
        have := Sum.inr.inj z
        exact (List.nodup_cons.mp nd).1 (this ▸ hy)
theorem kys_len : ∀ {ks : List (Option Expr)} {xs : List Str}, KyS ks xs → ks.length = xs.length ∧ ks.all (·.isSome) = true
  | _, _, .nil => ⟨rfl, rfl⟩
  | _, _, .cons h => ⟨by rw [List.length_cons, List.length_cons, (kys_len h).1], by rw [List.all_cons, (kys_len h).2]; rfl⟩
theorem pairedLen {α β : Type} {F : α → β → Prop} : ∀ {xs : List α} {ys : List β}, Paired F xs ys → xs.length = ys.length
  | _, _, .nil => rfl
  | _, _, .cons _ h => by rw [List.length_cons, List.length_cons, pairedLen h]
theorem de_dct1 {ks : List (Option Expr)} {xs : List Str} (hk : KyS ks xs) (h : Paired (AS g W X) es ss) (hl : xs.length = es.length) (h0 : xs ≠ []) (h15 : xs.length ≤ 15) (nd : xs.Nodup) :
    PE X (.Dict ks es pos) (tE g W fun ρ => (evEs ss ρ).bd fun ds ρ1 => .ok (.fr (.dct (dctD xs ds))) ρ1) := by
  obtain ⟨kl, ka⟩ := kys_len hk
  refine peImp (pe_disp (pps_of hk h hl) ka (by rw [kl, hl]) (fun z => h0 (List.eq_nil_of_length_eq_zero (by rw [← kl, z]; rfl))) (by rw [kl]; exact h15)) fun σ H Q ⟨O, ρ, S, q⟩ p np => ?_
  have S1 := S.laidO (o := .dK []) np
  have s1 : Stp g σ ρ H O ρ (upd H p (.dK [])) (fun b => O b ∨ b = p) := ⟨Fr.laidO np, S1, fun _ z => z, fun _ d e => ⟨d, e⟩⟩
  have nw : ¬ Wn σ ρ p := fun z => S.obj p (S.wn p z) np
  refine pairs_run (by rw [hl, pairedLen h]) S1 (q.rebase s1) fun ds ρ2 vs H2 O2 s2 rvs le q2 => ?_
  have at2 : H2 p = some (.dK []) := s2.fr.keep p _ upd_same nw
  have o2 : O2 p := s2.fr.o1 p (.inr rfl) nw
  have nw2 : ¬ Wn σ ρ2 p := fun z => nw (s2.sub p z)
  refine ⟨at2, List.zipWith (fun x v => ((Sum.inr x : Key), v)) xs vs, ?_, ?_, ?_⟩
  · rw [List.map_zipWith]; rfl
  · rw [List.length_zipWith]; omega
  · rw [merge_of xs vs [] (fun _ _ p hp => by cases hp) nd, List.nil_append]
    let o : HO := .dK (List.zipWith (fun x v => ((Sum.inr x : Key), v)) xs vs)
    have f : Fr (fun b => b = p) H2 O2 (upd H2 p o) O2 := by
      refine ⟨fun b o e _ n => by rw [upd_ne n]; exact e, fun P n t => tabs_upd at2 (fun _ _ z => by cases z) n t, fun b e => ?_, fun _ e _ => e, fun _ e => .inl e⟩
      by_cases hb : b = p
      · subst hb; rw [upd_same] at e; cases e
      · rw [upd_ne hb] at e; exact e
    have hD : ∀ b, b = p → O2 b := fun b e => by rw [e]; exact o2
    have st3 : StR g (upd H2 p o) O2 σ ρ2 := s2.st.fr0 f hD (fun b e z => nw2 (e ▸ z)) fun b z e => s2.st.obj b z (f.there b e)
    refine q2 (.ref p) (upd H2 p o) O2 ?_ ?_
    · refine ⟨⟨fun b u e t n => ?_, fun P n t => f.tb P (fun z => by
        obtain ⟨ps, e, _⟩ := t
        rw [z, np] at e; cases e) ((s1.trans s2).fr.tb P n t), fun b e => (s1.trans s2).fr.there b (f.there b e), (s1.trans s2).fr.o1, (s1.trans s2).fr.o2⟩, st3, (s1.trans s2).sub, (s1.trans s2).io⟩
      rw [upd_ne fun z => by rw [z, np] at e; cases e]
      exact (s1.trans s2).fr.kp b u e t n
    · exact ⟨p, rfl, np, o2, nw2, .dct upd_same ((rdk_of rvs).fr f hD)⟩
theorem de_dct {ks : List (Option Expr)} {xs : List Str} (hk : KyS ks xs) (h : Paired (AS g W X) es ss) (hl : xs.length = es.length) (h15 : xs.length ≤ 15) (nd : xs.Nodup) :
    PE X (.Dict ks es pos) (tE g W fun ρ => (evEs ss ρ).bd fun ds ρ1 => .ok (.fr (.dct (dctD xs ds))) ρ1) := by
  by_cases h0 : xs = []
  · subst h0
    cases hk
    obtain rfl : es = [] := List.eq_nil_of_length_eq_zero hl.symm
    cases h
    refine peImp pe_dnewK fun σ H Q ⟨O, ρ, S, q⟩ p np => ?_
    have S1 := S.laidO (o := .dK []) np
    have s1 : Stp g σ ρ H O ρ (upd H p (.dK [])) (fun b => O b ∨ b = p) := ⟨Fr.laidO np, S1, fun _ z => z, fun _ d e => ⟨d, e⟩⟩
    exact q (.ref p) _ _ s1 ⟨p, rfl, np, .inr rfl, fun z => S.obj p (S.wn p z) np, .dct upd_same .nil⟩
  · exact de_dct1 hk h hl h0 h15 nd
end
section
variable {g : Gm} {W : WX} {X : Cx} {pos : Pos}
theorem de_dctT : PE X (.Dict [] [] pos) (tE g W fun ρ => .ok (.fr (.dtc [])) ρ) := by
  refine peImp pe_dnewT fun σ H Q ⟨O, ρ, S, q⟩ p np => ?_
  have S1 := S.laidO (o := .dT []) np
  have s1 : Stp g σ ρ H O ρ (upd H p (.dT [])) (fun b => O b ∨ b = p) := ⟨Fr.laidO np, S1, fun _ z => z, fun _ d e => ⟨d, e⟩⟩
  exact q (.ref p) _ _ s1 ⟨p, rfl, np, .inr rfl, fun z => S.obj p (S.wn p z) np, .dtc upd_same .nil⟩
end
section
variable {g : Gm} {W : WX} {X : Cx} {pos : Pos} {a b : Expr}
theorem de_spl {apos : Pos} {sa sb : Sm} (ha : PE X a (tE g W sa.v)) (hb : PE X b (tE g W sb.v)) (hs : starEach [b] X.env = [(false, eval b X.env)]) (hbase : attributeBase a "split" X.env (eval a X.env) = eval a X.env) (hl : (apos.endLine == pos.line) = true) :
    PE X (.Call (.Attribute a "split" apos) [b] [] pos) (tE g W (stV sa sb splD)) := by
  refine peImp (pe_split ha hb hs hbase hl) fun σ H Q ⟨O, ρ, S, q⟩ => ?_
  refine run_s S q fun r ρ1 v H1 O1 s1 rv q1 => ?_
  split at q1
  · rename_i x ex
    rw [ex] at rv
    cases rv
    refine ⟨⟨_, rfl⟩, run_s s1.st q1 fun r2 ρ2 v2 H2 O2 s2 rv2 q2 => ?_⟩
    obtain ⟨r, er, qr⟩ := q2.of
    unfold splD at er
    split at er
    · rename_i x' y e1 e2
      cases e1
      split at er
      · rename_i hc
        cases er
        rw [e2] at rv2
        cases rv2
        refine ⟨_, _, rfl, rfl, hc.1, by rw [← sizeL_eq]; exact hc.2, Mk1.lst (g := g) (O := O2) (RDs.strs _) fun v H' O' n => ?_⟩
        obtain ⟨s3, rv⟩ := n.stp s2.st
        exact qr v H' O' ((s1.trans s2).trans s3) (rv.base (s1.trans s2).fr.there)
      · cases er
    · cases er
  · exact q1.elim
/-- x.join(ys) -/
theorem de_jn (hK : X.K = g.K) {apos : Pos} {sa sb : Sm} (ha : PE X a (tE g W sa.v)) (hb : PE X b (tE g W sb.v)) (hs : starEach [b] X.env = [(false, eval b X.env)]) (hbase : attributeBase a "join" X.env (eval a X.env) = eval a X.env) (hl : (apos.endLine == pos.line) = true) :
    PE X (.Call (.Attribute a "join" apos) [b] [] pos) (tE g W (stV sa sb jnD)) := by
  refine peImp (pe_join ha hb hs hbase hl) fun σ H Q ⟨O, ρ, S, q⟩ => ?_
  refine run_s S q fun r ρ1 v H1 O1 s1 rv q1 => ?_
  split at q1
  · rename_i x ex
    rw [ex] at rv
    cases rv
    refine ⟨⟨_, rfl⟩, run_s s1.st q1 fun r2 ρ2 v2 H2 O2 s2 rv2 q2 => ?_⟩
    obtain ⟨r, er, qr⟩ := q2.of
    unfold jnD at er
    split at er
    · rename_i x' ys e1 e2
      cases e1
      obtain ⟨ss, es, er⟩ := Option.bind_eq_some_iff.mp er
      split at er
      · rename_i hc
        cases er
        rw [e2] at rv2
        cases rv2 with
        | lst h hs2 =>
          cases toStrs_rel hs2 es
          exact ⟨_, _, ss, rfl, rfl, .inl (by rw [hK]; exact h.sq), hc, qr _ H2 O2 (s1.trans s2) (.str _)⟩
      · cases er
    · cases er
  · exact q1.elim
/-- a method of a text without arguments -/
theorem de_m0 {m : Tm} {x : Str} (hx : x = (m.nm : Str)) {apos : Pos} {sa : Sm} (ha : PE X a (tE g W sa.v)) (hbase : attributeBase a x X.env (eval a X.env) = eval a X.env) (hl : (apos.endLine == pos.line) = true) :
    PE X (.Call (.Attribute a x apos) [] [] pos) (tE g W (m0V m sa)) := by
  subst hx
  have key : ∀ {r : V → List V → Hp → VK → Prop}, PE X (.Call (.Attribute a (m.nm : Str) apos) [] [] pos) (tM0 r (tE g W sa.v)) →
      (∀ (x : Str) (H : Hp) (Q : VK) (o : Rs), m0D m x = some o → (∀ v, RD g H (fun _ => False) v o.d → (∀ H' O', RD g H' O' v o.d) → (∃ d, o = .sh d) → Q v H) → r (.str x) [] H Q) →
      PE X (.Call (.Attribute a (m.nm : Str) apos) [] [] pos) (tE g W (m0V m sa)) := fun {r} hp hr => by
    refine peImp hp fun σ H Q ⟨O, ρ, S, q⟩ => ?_
    refine run_s S q fun r ρ1 v H1 O1 s1 rv q1 => ?_
    split at q1
    · rename_i x ex
      rw [ex] at rv
      cases rv
      obtain ⟨o, er, qr⟩ := q1.of
      refine ⟨⟨_, rfl⟩, hr x H1 Q o er fun v _ hv ⟨d, e⟩ => ?_⟩
      subst e
      exact qr v H1 O1 s1 (hv H1 O1)
    · exact q1.elim
  cases m with
  | up =>
    exact key (pe_m0 F.slot_str_upper F.type_str_upper mt_upper ha hbase hl) fun x H Q o e q => by
      unfold m0D at e
      dsimp only at e
      split at e
      · rename_i hc
        cases e
        exact ⟨x, rfl, rfl, hc, q _ (.str _) (fun _ _ => .str _) ⟨_, rfl⟩⟩
      · cases e
  | dig =>
    exact key (pe_m0 F.slot_str_isdigit F.type_str_isdigit mt_isdigit ha hbase hl) fun x H Q o e q => by
      cases e
      exact ⟨x, rfl, rfl, trivial, q _ (.bl _) (fun _ _ => .bl _) ⟨_, rfl⟩⟩
  | asc =>
    exact key (pe_m0 F.slot_str_isascii F.type_str_isascii mt_isascii ha hbase hl) fun x H Q o e q => by
      cases e
      exact ⟨x, rfl, rfl, trivial, q _ (.bl _) (fun _ _ => .bl _) ⟨_, rfl⟩⟩
theorem de_ptn {apos : Pos} {sa sb : Sm} (ha : PE X a (tE g W sa.v)) (hb : PE X b (tE g W sb.v)) (hs : starEach [b] X.env = [(false, eval b X.env)]) (hbase : attributeBase a "partition" X.env (eval a X.env) = eval a X.env) (hl : (apos.endLine == pos.line) = true) :
    PE X (.Call (.Attribute a "partition" apos) [b] [] pos) (tE g W (stV sa sb ptnD)) := by
  refine peImp (pe_partition ha hb hs hbase hl) fun σ H Q ⟨O, ρ, S, q⟩ => ?_
  refine run_s S q fun r ρ1 v H1 O1 s1 rv q1 => ?_
  split at q1
  · rename_i x ex
    rw [ex] at rv
    cases rv
    refine ⟨⟨_, rfl⟩, run_s s1.st q1 fun r2 ρ2 v2 H2 O2 s2 rv2 q2 => ?_⟩
    obtain ⟨r, er, qr⟩ := q2.of
    unfold ptnD at er
    split at er
    · rename_i x' y e1 e2
      cases e1
      split at er
      · rename_i hc
        cases er
        rw [e2] at rv2
        cases rv2
        refine ⟨_, _, rfl, rfl, hc.1, by rw [← sizeL_eq]; exact hc.2, Mk1.tup (g := g) (O := O2) s2.st.obj (.cons (.str _) (.cons (.str _) (.cons (.str _) .nil))) fun v H' O' n => ?_⟩
        obtain ⟨s3, rv⟩ := n.stp s2.st
        exact qr v H' O' ((s1.trans s2).trans s3) rv
      · cases er
    · cases er
  · exact q1.elim
theorem de_dget (C : CtxOk g X) {c : Expr} {apos : Pos} {sa sb sc : Sm} (ha : PE X a (tP g W sa.o)) (hb : AS g W X b sb) (hc : AS g W X c sc) (hbase : attributeBase a "get" X.env (eval a X.env) = eval a X.env) (hl : (apos.endLine == pos.line) = true) :
    PE X (.Call (.Attribute a "get" apos) [b, c] [] pos) (tE g W (dgetV sa sb sc)) := by
  have few : ((backTo pos (starEach [b, c] X.env)).all (fun x => !x.1) && (backToKw pos (keywordEach [] X.env)).all (fun x => x.1.isSome)
      && decide (([b, c] : List Expr).length + ([] : List Keyword).length + (if ([] : List Keyword).isEmpty then 0 else 1) < 30)) = true := by
    rw [hb.ns [c] _, hc.ns [] _]
    rfl
  have trees : backTo pos (starEach [b, c] X.env) = [(false, eval b X.env), (false, eval c X.env)] := by
    rw [hb.ns [c] _, hc.ns [] _]
    rfl
  refine peImp (pe_dget2 (by have := C.un; omega) ha hb.es.v hc.es.v ⟨hbase, few, hl, trees⟩) fun σ H Q ⟨O, ρ, S, q⟩ => ?_
  refine run_p S q fun p ρ1 x H1 O1 s1 px q1 => ?_
  split at q1
  · rename_i kvs0 ep
    obtain ⟨ad, xs, rfl, hX, hxs⟩ := (px.rb s1.st ep).getD
    refine ⟨ad, rfl, .inl ⟨xs, .inl hX⟩, ?_⟩
    refine run_s s1.st q1 fun r ρ2 v2 H2 O2 s2 rv2 q2 => run_s s2.st q2 fun r3 ρ3 v3 H3 O3 s3 rv3 q3 => ?_
    split at q3
    · rename_i kvs z e1 e2
      obtain ⟨ad', ys, ea, hY, hys⟩ := (((px.stp s1.st s2).stp s2.st s3).rb s3.st e1).getD
      cases ea
      have rv2' := s3.rd s2.st rv2
      rw [e2] at rv2'
      cases rv2'
      refine ⟨_, DGet.k (k := .inr z) hY, ?_⟩
      refine q3 _ H3 O3 ((s1.trans s2).trans s3) ?_
      have h1 := val_rel (x := z) hys
      cases ed : dctAt kvs z with
      | some d =>
        obtain ⟨w, ew, rw'⟩ := h1.2 d ed
        rw [ew]
        exact rw'
      | none =>
        have h2 := h1.1
        rw [ed] at h2
        cases ev : valV ys (.inr z) with
        | none => exact rv3
        | some w => rw [ev] at h2; cases h2
    · exact q3.elim
  · exact q1.elim
theorem de_gd (C : CtxOk g X) {x : Str} {kvs : List (Str × GV)} {d : Addr} (hg : Gl X x) (hm : g.mg x = some (.ref d)) (hk : KDs g d kvs) (hd : (x == ("__debug__" : Str)) = false) : PE X (.Name x pos) (tE g W fun ρ => .ok (.sh (.kdc kvs)) ρ) :=
  de_const (v := .ref d) (pe_glob hg (by rw [C.hmg]; exact hm) rfl hd) fun _ _ => .kdc hk
theorem de_gc (C : CtxOk g X) {x : Str} {c : GC} {v : V} {u : Value} (hg : Gl X x) (hm : g.mg x = some u) (hr : RelV v u) (hv : GVal g v c) (hd : (x == ("__debug__" : Str)) = false) : PE X (.Name x pos) (tE g W fun ρ => .ok (.sh (gcD c)) ρ) :=
  de_const (pe_glob hg (by rw [C.hmg]; exact hm) hr hd) fun _ _ => hv.rd
end
section
variable {g : Gm} {W : WX} {X : Cx} {pos : Pos} {es : List Expr} {ss : List Sm} (C : CtxOk g X)
theorem plAll_rb {σ : St} {ρ : Rho} {H : Hp} {O : AP1} (S : StR g H O σ ρ) : ∀ {ps : List Pl} {vs : List V} {ds : List D}, Paired (PlR g H O σ) vs ps → plAll ρ ps = some ds → RBs g H O vs ds
  | [], _, _, .nil, e => by cases e; exact .nil
  | p :: ps, _, _, .cons h hs, e => by
    unfold plAll at e
    split at e
    · rename_i d ds e1 e2
      cases e
      exact .cons (h.rb S e1) (plAll_rb S hs e2)
    · cases e
include C
theorem de_bi (hnd : PySem.W.nsIn g.K cStatics "sys.int_max_str_digits" = some none) {x : Str} {p : Pos} {f : Bi} (hx : x = (f.nm : Str)) (hg : Gl X x) (hm : X.mg x = none) (h : Paired (AS g W X) es ss) (hne : es ≠ []) : PE X (.Call (.Name x p) es [] pos) (tE g W (biV f ss)) := by
  subst hx
  obtain ⟨e, es, rfl⟩ : ∃ e r, es = e :: r := by
    cases es with
    | nil => exact absurd rfl hne
    | cons e r => exact ⟨e, r, rfl⟩
  have key : ∀ {r}, CallR X f.val r → PE X (.Call (.Name (f.nm : Str) p) (e :: es) [] pos) (tCB r (tBs g W (evBs ss))) := fun {r} hr => by
    have ha := pas_bs h
    cases h with
    | cons h hs =>
      cases f <;> first
        | exact pe_callB hr hg hm (by decide +kernel) ha (by decide) (by decide) (h.ns es _) (no_star hs _ _)
        | exact pe_callTy hr hg hm (by decide +kernel) ha (by decide) (by decide) (h.ns es _) (no_star hs _ _)
  refine peImp (key (bir C.hK hnd C.hP C.calm C.un C.gd f)) fun σ H Q ⟨O, ρ, S, q⟩ => ?_
  refine run_bs S q fun ps ρ1 vs H1 O1 s1 rvs q1 => ?_
  split at q1
  · rename_i ds e1
    obtain ⟨r, er, qr⟩ := q1.of
    refine ⟨O1, ds, r, s1.st.obj, plAll_rb s1.st rvs e1, er, fun v H' O' n => ?_⟩
    obtain ⟨s2, rv⟩ := n.stp s1.st
    exact qr v H' O' (s1.trans s2) (rv.base s1.fr.there)
  · exact q1.elim
/-- range(..) of one or two ints, made -/
def tRg (g : Gm) (W : WX) (f : Rho → Re (List D)) : St → Hp → (Int → Int → Hp → Prop) → Prop := fun σ H Q => ∃ O ρ, StR g H O σ ρ ∧ RW W g σ ρ H O (f ρ) fun ds ρ' => ∃ a b, rngEnds ds = some (a, b) ∧ ∀ H' O', Stp g σ ρ H O ρ' H' O' → Q a b H'
omit C in
theorem dg_range {p : Pos} (hg : Gl X "range") (hm : X.mg "range" = none) (h : Paired (AS g W X) es ss) (hl : es.length = 1 ∨ es.length = 2) : PRg X (.Call (.Name "range" p) es [] pos) (tRg g W (evEs ss)) := by
  match es, ss, h with
  | [a], [sa], .cons ha .nil =>
    intro pins s σ H Q I ⟨O, ρ, S, q⟩
    refine prg_1 hg hm ha.es.v (ha.ns [] _) pins s σ H Q I ?_
    refine run_s S q fun r ρ1 v H1 O1 s1 rv q1 => ?_
    obtain ⟨x, y, e, q2⟩ := q1
    unfold rngEnds at e
    split at e
    · rename_i n e2
      cases e
      rw [List.cons.inj e2 |>.1] at rv
      cases rv
      exact ⟨y, rfl, q2 H1 O1 s1⟩
    · rename_i e2
      exact absurd (congrArg List.length e2) (by simp)
    · cases e
  | [a, b], [sa, sb], .cons ha (.cons hb .nil) =>
    intro pins s σ H Q I ⟨O, ρ, S, q⟩
    have hp : (backTo pos (starEach [b] X.env)).any (·.1) = false := no_star (ss := [sb]) (.cons hb .nil) pos X.env
    refine prg_2 hg hm ha.es.v hb.es.v (ha.ns [b] _) (hb.ns [] _) hp pins s σ H Q I ?_
    refine run_s S q fun r ρ1 v H1 O1 s1 rv q1 => ?_
    refine run_s s1.st q1.bd fun r2 ρ2 v2 H2 O2 s2 rv2 q2 => ?_
    obtain ⟨x, y, e, q3⟩ := q2
    unfold rngEnds at e
    split at e
    · rename_i e2
      exact absurd (congrArg List.length e2) (by simp)
    · rename_i i j e2
      cases e
      rw [List.cons.inj e2 |>.1] at rv
      rw [List.cons.inj (List.cons.inj e2).2 |>.1] at rv2
      cases rv
      cases rv2
      exact ⟨x, y, rfl, rfl, q3 H2 O2 (s1.trans s2)⟩
    · cases e
  | [], _, _ => simp at hl
  | _ :: _ :: _ :: _, _, _ => simp at hl
end
end Wr
namespace Wr
open PySem PySem.Spec L2
open PyProof.Rows hiding St
theorem enumT_meets (t : Addr) (its : Array Value) (k : Nat) (dd : Option Addr) (sl : Array (Option Value)) :
    Meets (Builtin.«enumerate.__new__» ⟨[.type "enumerate", .ref t], []⟩) (fun _ R s => s.heap.get? t = some { cls := .type "tuple", dict := dd, data := .seq its k, slots := sl } ∧
      R (.ok (.ret (.ref (s.heap.push { cls := .type "tuple_iterator", data := .fields #[.ref t, .int 0 0] }).objs.size)))
        { s with heap := (s.heap.push { cls := .type "tuple_iterator", data := .fields #[.ref t, .int 0 0] }).push { cls := .type "enumerate", data := .fields #[.none, .bool false, .ref s.heap.objs.size, rawInt 0, .none, .none] } }) := by
  refine .of_wp fun prog w A R s h => ?_
  obtain ⟨hp, g, d, tk, os⟩ := s
  obtain ⟨ht, h⟩ := h
  have hsub := sub_enumerate
  have hT : Heap.IsTuple (Shared.heap ⟨hp, g, d, tk, os⟩) t its := ⟨_, ht, rfl, k, rfl⟩
  wp_walk using AutoSeq1.wpAny_loadPart' ht
  refine wpAny_stack_any fun st => wpAny_pure ?_
  split
  · rename_i c _ _ _ _ _
    cases (c == Value.type "enumerate")
    · wp_walk using AutoSeq1.wpAny_loadPart' ht, wpAny_pyIter_tuple hT
      exact ⟨_, rfl, h⟩
    · wp_walk using AutoSeq1.wpAny_loadPart' ht, wpAny_pyIter_tuple hT
      exact ⟨_, rfl, h⟩
  · wp_walk using AutoSeq1.wpAny_loadPart' ht, wpAny_pyIter_tuple hT
    exact ⟨_, rfl, h⟩
theorem enumT_call {prog : Program} {w : World} {A : Around} {E : Value → Shared → Prop} {s : Shared} {t : Addr} {its : Array Value} {Q : Value → Shared → Prop} (hT : s.heap.IsTuple t its)
    (h : ∀ h', IsEnum h' (s.heap.objs.size + 1) s.heap.objs.size 0 .none → h'.IsTupleIter s.heap.objs.size t 0 → (∀ b o, s.heap.get? b = some o → h'.get? b = some o) → Q (.ref (s.heap.objs.size + 1)) { s with heap := h' }) :
    wpAny (model prog w) A (call (.type "enumerate") [.ref t]) Q E s := by
  obtain ⟨⟨c, dd, dt, sl⟩, ht, hc, k, hd⟩ := hT
  obtain rfl : c = .type "tuple" := hc
  obtain rfl : dt = .seq its k := hd
  refine callType_new F.called_enumerate (by decide) (F.typeCall_enumerate_1 _) (F.newCall_enumerate_1 _) (fun obj => F.args_object_init_2 obj _) F.entry_enumerate_new (enumT_meets t its k dd sl) ⟨ht, ?_⟩
  have z1 : (s.heap.push { cls := .type "tuple_iterator", data := .fields #[.ref t, .int 0 0] }).objs.size = s.heap.objs.size + 1 := Heap.size_push ..
  show _ ∧ _
  rw [z1]
  generalize hh1 : s.heap.push { cls := .type "tuple_iterator", data := .fields #[.ref t, .int 0 0] } = h1 at z1 ⊢
  have he : (h1.push { cls := .type "enumerate", data := .fields #[.none, .bool false, .ref s.heap.objs.size, rawInt 0, .none, .none] }).get? (s.heap.objs.size + 1) = some { cls := .type "enumerate", data := .fields #[.none, .bool false, .ref s.heap.objs.size, rawInt 0, .none, .none] } := by
    rw [← z1]
    exact Heap.get?_push_size _ rfl
  have hi : h1.get? s.heap.objs.size = some { cls := .type "tuple_iterator", data := .fields #[.ref t, .int 0 0] } := by rw [← hh1]; exact Heap.get?_push_size _ rfl
  have hk : ∀ b o, s.heap.get? b = some o → h1.get? b = some o := fun b o e => by rw [← hh1]; exact Heap.get?_push_of_some _ e
  exact ⟨⟨_, he, rfl⟩, h _ he ⟨_, Heap.get?_push_of_some _ hi, rfl, rfl⟩ fun b o e => Heap.get?_push_of_some _ (hk b o e)⟩
/-- a tuple's items with their numbers, each in a new pair -/
def IteT (K : PySem.W.Frag) (a : Addr) : It where
  go := fun i H => ∃ (xs : List V) (x : V), SqT K H a xs ∧ xs[i]? = some x
  yld := fun i H v H' => ∃ T x, v = .ref T ∧ H T = none ∧ H' = upd H T (.tup [.int (i : Nat), x]) ∧ ∀ xs, SqT K H a xs → xs[i]? = some x
  stop := fun i H => ∃ xs : List V, SqT K H a xs ∧ xs.length = i
theorem walk_enumT {K : PySem.W.Frag} {a : Addr} {xs : List V} : Walk (IteT K a) xs.length (fun H => SqT K H a xs) (YPair (fun i => some (.int (i : Nat))) (fun i => xs[i]?)) where
  goes := fun i _ hi q => ⟨xs, xs[i], q, by simp [hi]⟩
  stops := fun _ q => ⟨xs, q, rfl⟩
  yields := fun i H v H' _ q ⟨T, x, e1, e2, e3, e4⟩ => ⟨T, .int (i : Nat), x, e1, e2, e3, rfl, e4 xs q⟩
theorem turn_enumT {P : Program} {w : World} {K : PySem.W.Frag} {elts : List Expr} {kk : Nat} {tpos : Pos} (a e it : Addr) :
    Turn P w K (.Tuple elts kk tpos) (IteT K a) [e, it] e (fun i h => (∃ old, IsEnum h e it ((i : Nat) : Int) old) ∧ h.IsTupleIter it a i ∧ e ≠ it ∧ a ≠ it ∧ e ≠ a) where
  mem := List.mem_cons_self
  obj := fun i h st b hb => by
    obtain ⟨⟨old, he⟩, ⟨o, ho, hc, hd⟩, _⟩ := st
    rcases List.mem_cons.mp hb with rfl | hb
    · exact ⟨_, he, fun v q => nomatch q⟩
    · obtain rfl : b = it := by simpa using hb
      exact ⟨o, ho, fun v q => by rw [hd] at q; cases q⟩
  keep := fun i h h' ⟨⟨old, he⟩, ⟨o, ho, q⟩, r⟩ k => ⟨⟨old, k e (by simp) _ he⟩, ⟨o, k it (by simp) o ho, q⟩, r⟩
  item := by
    intro X hP hw hK hc i pins s σ H E I hf st hg
    subst hP hw hK
    obtain ⟨⟨old, he⟩, hit, n1, n2, n3⟩ := st
    obtain ⟨xs, x, hq, hx⟩ := hg
    obtain ⟨its, rv, p, hz⟩ := I.tuple hq
    obtain ⟨u, hu, ru⟩ := rv.get hx
    have hil : i < its.toArray.size := by
      rw [List.size_toArray]
      exact (List.getElem?_eq_some_iff.mp hu).1
    have hel : e < s.heap.objs.size := Heap.lt_size he
    have hitl : it < s.heap.objs.size := by obtain ⟨_, q, _⟩ := hit; exact Heap.lt_size q
    have D := Draws.tuple (prog := X.prog) (w := X.w) (A := X.A.in1) (I.ok.hd hc) it a n2 its.toArray
    refine wpAny_pyNext_enum_itemD D he ⟨hit, p⟩ hil n1 (by simp [n1, n3]) fun y h' tk hy ho hst' hT hsz hk => ?_
    have hu' : its.toArray[i]? = some u := by simpa using hu
    rw [hu'] at hy
    cases hy
    refine ⟨_, rfl, wpAny_letOwnedTupleGo_enum (s := { s with heap := h', toks := tk + 1 }) ho fun h'' he' sb => ?_⟩
    have new : ObjOk X.prog X.w (upd H s.heap.objs.size (.tup [.int (i : Nat), x])) h'' s.heap.objs.size (.tup [.int (i : Nat), x]) :=
      ⟨by show 2 ≤ sizeLine; decide, [.int i tk, u], .cons ⟨_, rfl⟩ (.cons ru .nil), ⟨_, (sb.2 _ (Nat.ne_of_gt hel)).trans hT, rfl, _, rfl⟩⟩
    have I1 : Inv X pins σ (upd H s.heap.objs.size (.tup [.int (i : Nat), x])) { s with heap := h'', toks := tk + 1 } :=
      I.turnedNew (ch := [e, it]) (fun b ob hb q => (sb.2 b fun z => hb (by simp [z])).trans (hk b ob (fun z => hb (by simp [z])) (fun z => hb (by simp [z])) q)) hf (Nat.le_refl _) new
    obtain ⟨⟨o2, ho2, q2⟩, _⟩ := hst'
    refine ⟨.ref s.heap.objs.size, _, I1, rfl, ⟨_, x, rfl, I.hok.fresh (Nat.le_refl _), rfl, fun ys hy => by rw [I.tuple_inj hy hq]; exact hx⟩, ⟨⟨u, he'⟩, ⟨o2, (sb.2 it (Ne.symm n1)).trans ho2, q2⟩, n1, n2, n3⟩, fun b hb => ?_⟩
    have hb' : b < s.heap.objs.size := by
      rcases List.mem_cons.mp hb with rfl | hb
      · exact hel
      · obtain rfl : b = it := by simpa using hb
        exact hitl
    rw [upd_ne (Nat.ne_of_lt hb')]
    exact (hf b hb).1
  done := by
    intro X hP hw hK hc i pins s σ H E I hf st hg
    subst hP hw hK
    obtain ⟨⟨old, he⟩, hit, n1, n2, n3⟩ := st
    obtain ⟨xs, hq, hx⟩ := hg
    obtain ⟨its, rv, p, hz⟩ := I.tuple hq
    have hl := rv.length
    have D := Draws.tuple (prog := X.prog) (w := X.w) (A := X.A.in1) (I.ok.hd hc) it a n2 its.toArray
    obtain ⟨f0, f1, f2, f3, f4, f5⟩ := hf it (by simp)
    have ei : i = its.toArray.size := by rw [List.size_toArray]; omega
    rw [ei] at hit he
    exact wpAny_pyNext_enum_endD D he ⟨hit, p⟩ fun h' eb => ⟨rfl, I.turned (t' := s.toks) (fun b o hb q => eb b o hb q) f0 f1 f3 f4 f5⟩
  self := fun A i s Q E st h => let ⟨⟨_, he⟩, _⟩ := st; wpAny_pyIter_enum he h
def iEnumT (K : PySem.W.Frag) (ta : TA) : TI := fun σ H R => ta σ H fun vs H1 => ∃ a xs, vs = [.ref a] ∧ ((SqL K H1 a xs ∧ R (Ite K a) H1) ∨ (SqT K H1 a xs ∧ R (IteT K a) H1))
theorem pi_enumT {X : Cx} {e : Expr} {ta : TA} {p pos tpos : Pos} {elts : List Expr} {kk : Nat} (hg : Gl X "enumerate") (hm : X.mg "enumerate" = none) (ha : PA X [e] ta) (hs : starEach [e] X.env = [(false, eval e X.env)]) :
    PI X (.Tuple elts kk tpos) (.Call (.Name "enumerate" p) [e] [] pos) (iEnumT X.K ta) := by
  refine ⟨fun pins s σ H R I h => ?_⟩
  refine Call_ (ld_blt I hg hm boot_enumerate (PyProof.Rows.callWith_type1 (thn (ha.run pos pins s σ H _ I h) fun us s1 ⟨vs, H1, I1, r1, q1⟩ => ?_) hs rfl))
  obtain ⟨a, xs, rfl, q⟩ := q1
  obtain ⟨u, rfl, ru⟩ := Vals.one r1
  cases ru
  have fin : ∀ b, b = s1.heap.objs.size + 1 ∨ b = s1.heap.objs.size → FpOk X pins H1 b := fun b e => by
    have hle : s1.heap.objs.size ≤ b := by
      rcases e with z | z
      · rw [z]; exact Nat.le_add_right _ _
      · rw [z]; exact Nat.le_refl _
    exact I1.fpOk hle (I1.hok.fresh hle)
  rcases q with ⟨hq, q⟩ | ⟨hq, q⟩
  · obtain ⟨its, rv, p', hz⟩ := I1.list hq
    refine call_enumerate_list p'.isList fun h' he hit hsz hk => wpAny_pyIter_enum he ?_
    exact ⟨_, _, _, _, H1, rfl, I1.kept (t' := s1.toks) hk, turn_enum a (s1.heap.objs.size + 1) s1.heap.objs.size, ⟨⟨.none, he⟩, hit, Nat.succ_ne_self _⟩, fun b hb => fin b (by simpa using hb), q⟩
  · obtain ⟨its, rv, p', hz⟩ := I1.tuple hq
    have hlt : a < s1.heap.objs.size := by obtain ⟨o, e, _⟩ := p'; exact Heap.lt_size e
    refine enumT_call p' fun h' he hit hk => wpAny_pyIter_enum he ?_
    exact ⟨_, _, _, _, H1, rfl, I1.kept (t' := s1.toks) hk, turn_enumT a (s1.heap.objs.size + 1) s1.heap.objs.size, ⟨⟨.none, he⟩, hit, Nat.succ_ne_self _, Nat.ne_of_lt hlt, Nat.ne_of_gt (Nat.lt_succ_of_lt hlt)⟩, fun b hb => fin b (by simpa using hb), q⟩
end Wr
namespace Wr
open PySem PySem.Spec L2
open PyProof.Rows hiding St
section
variable {g : Gm} {W : WX} {X : Cx} {pos : Pos} {e : Expr} (C : CtxOk g X)
include C
theorem ty_rel {H : Hp} {O : AP1} {v : V} {d : D} {a : String} (h : RB g H O v d) (e : tyD d = some a) : TyX X.K H v (.type a) := by
  cases d with
  | non => cases h.getN; cases e; exact .base .non
  | bl b => cases h.getB; cases e; exact .base (.bl b)
  | int i => cases h.getI; cases e; exact .base (.int i)
  | str x => cases h.getS; cases e; exact .base (.str x)
  | lst ds =>
    obtain ⟨a, xs, rfl, hX, _⟩ := h.getL
    cases e
    rcases hX with (hX | ⟨o, hX⟩) | ⟨its, n, hX, _⟩
    · exact .base (.lst hX)
    · exact .base (.frz hX)
    · exact .kList (by rw [C.hK]; exact hX) rfl
  | tup ds =>
    obtain ⟨a, xs, rfl, hX, _⟩ := h.getT
    cases e
    rcases hX with (hX | ⟨o, hX⟩) | ⟨o, its, n, hX, hc, _⟩
    · exact .base (.tup hX)
    · exact .fTuple hX
    · exact .kTuple (by rw [C.hK]; exact hX) hc
  | dct ds =>
    obtain ⟨a, xs, rfl, hX, _⟩ := h.getD
    cases e
    exact .base (.dK hX)
  | fnc x => cases e
  | kdc x => cases e
  | dtc x => cases e
  | xc x f d => cases e
  | clo _ _ _ _ => cases e
omit C in
theorem kit_isi {K : PySem.W.Frag} {t : Ty} {a : String} {d : D} (e : tyD d = some a) : PySem.W.kitOne K (.type a) (.type t.nm) = some (isiS t a) := by
  refine kit_ty ?_
  cases d <;> cases e <;> cases t <;> decide +kernel
theorem de_isi {x : Str} {p1 p2 : Pos} {t : Ty} {s : Sm} (hx : x = (t.nm : Str)) (hg : Gl X "isinstance") (hm : X.mg "isinstance" = none) (hg2 : Gl X x) (hm2 : X.mg x = none) (he : AS g W X e s) :
    PE X (.Call (.Name "isinstance" p1) [e, .Name x p2] [] pos) (tE g W (op1 s.o fun x ρ => .of ((isiD t x).map fun b => .sh (.bl b)) ρ)) := by
  subst hx
  have hc : PE X (.Name (t.nm : Str) p2) (tC (.ty t.nm)) := pe_bltn hg2 hm2 (u := .type t.nm) (by cases t <;> decide +kernel) rfl (by cases t <;> decide) (by cases t <;> decide)
  have ha := pa_cons he.es.o (pa_cons hc pa_nil rfl) (he.ns _ _)
  refine peImp (pe_callB call_isi hg hm boot_isinstance ha (by decide) (by decide) (he.ns _ _) rfl) fun σ H Q ⟨O, ρ, S, q⟩ => ?_
  refine run_p S q fun p ρ1 v H1 O1 s1 px q1 => ?_
  split at q1
  · rename_i d ed
    obtain ⟨r, er, qr⟩ := q1.of
    obtain ⟨b, eb, rfl⟩ := Option.map_eq_some_iff.mp er
    obtain ⟨a, ea, rfl⟩ := Option.map_eq_some_iff.mp eb
    exact ⟨v, .ty t.nm, .type a, .type t.nm, _, rfl, .ty _, ty_rel C (px.rb s1.st ed) ea, kit_isi ea, qr _ H1 O1 s1 (.bl _)⟩
  · exact q1.elim
end
end Wr
namespace Wr
open PySem PySem.Spec L2
open PyProof.Rows hiding St
/-- the tuple at a beside the list at b, as they stand at each turn -/
def ItzM (K : PySem.W.Frag) (a b : Addr) : It :=
  ⟨fun i H => ∃ (xs ys : List V) (x y : V), SqT K H a xs ∧ SqL K H b ys ∧ xs[i]? = some x ∧ ys[i]? = some y,
    fun i H v H' => ∃ T x y, v = .ref T ∧ H T = none ∧ H' = upd H T (.tup [x, y]) ∧ (∀ xs, SqT K H a xs → xs[i]? = some x) ∧ ∀ ys, SqL K H b ys → ys[i]? = some y,
    fun i H => ∃ xs ys : List V, SqT K H a xs ∧ SqL K H b ys ∧ i = min xs.length ys.length⟩
def tnM (a b z TI TO i1 i2 : Addr) (i : Nat) (h : Heap) : Prop := IsZip h z TI TO .none ∧ IsTupOf2 h TI (.ref i1) (.ref i2) ∧ (∃ x y, IsTupOf2 h TO x y) ∧ h.IsTupleIter i1 a i ∧ h.IsListIter i2 b i
theorem five {α : Type} {c z TI TO i1 i2 : α} (h : c ∈ [z, TI, TO, i1, i2]) : c = z ∨ c = TI ∨ c = TO ∨ c = i1 ∨ c = i2 := by simpa using h
theorem tnM_obj {a b z TI TO i1 i2 : Addr} {i : Nat} {h : Heap} (t : tnM a b z TI TO i1 i2 i h) (c : Addr) (hc : c ∈ [z, TI, TO, i1, i2]) : ∃ o, h.get? c = some o ∧ ∀ v, o.data ≠ .cell v := by
  obtain ⟨g1, g2, ⟨x, y, g3⟩, ⟨p, ep, _, dp⟩, ⟨q, eq, _, dq⟩⟩ := t
  rcases five hc with rfl | rfl | rfl | rfl | rfl
  · exact ⟨_, g1, fun _ e => by cases e⟩
  · exact ⟨_, g2, fun _ e => by cases e⟩
  · exact ⟨_, g3, fun _ e => by cases e⟩
  · exact ⟨p, ep, fun _ e => by rw [dp] at e; cases e⟩
  · exact ⟨q, eq, fun _ e => by rw [dq] at e; cases e⟩
theorem turn_zipM {P : Program} {w : World} {K : PySem.W.Frag} {elts : List Expr} {kk : Nat} {tpos : Pos} {a b z TI TO i1 i2 : Addr} (D : ZipSep2 z TI TO i1 i2 [i1, a] [i2, b]) (ha : a ≠ i1) (hb : b ≠ i2) :
    Turn P w K (.Tuple elts kk tpos) (ItzM K a b) [z, TI, TO, i1, i2] z (tnM a b z TI TO i1 i2) where
  mem := List.mem_cons_self
  obj := fun i h t c hc => tnM_obj t c hc
  keep := fun i h h' t k => by
    obtain ⟨g1, g2, ⟨x, y, g3⟩, g4, g5⟩ := t
    exact ⟨k z (by simp) _ g1, k TI (by simp) _ g2, ⟨x, y, k TO (by simp) _ g3⟩, g4.at fun o q => k i1 (by simp) o q, g5.at fun o q => k i2 (by simp) o q⟩
  item := by
    intro X hP hw hK hc i pins s σ H E I hf t hg
    subst hP hw hK
    have t0 := t
    obtain ⟨g1, g2, ⟨x0, y0, g3⟩, g4, g5⟩ := t
    obtain ⟨xs, ys, x, y, sx, sy, ex, ey⟩ := hg
    obtain ⟨us, rx, px, _⟩ := I.tuple sx
    obtain ⟨vs, ry, py, _⟩ := I.list sy
    obtain ⟨u, eu, ru⟩ := rx.get ex
    obtain ⟨v, ev, rv⟩ := ry.get ey
    have hh := I.ok.hd hc
    have lu : i < us.toArray.size := by rw [List.size_toArray]; exact (List.getElem?_eq_some_iff.mp eu).1
    have lv : i < vs.toArray.size := by rw [List.size_toArray]; exact (List.getElem?_eq_some_iff.mp ev).1
    refine wpAny_pyNext_zipD2_item D (Draws.tuple (A := X.A.in1) hh i1 a ha us.toArray) (Draws.list (A := X.A.in1) hh i2 b hb vs.toArray) g1 g2 g3 ⟨g4, px⟩ ⟨g5, py.isList⟩ lu lv fun u' v' h' tk pu pv z' to' st1 st2 hT hsz hk => ?_
    obtain rfl : u = u' := Option.some.inj (eu.symm.trans (by simpa using pu))
    obtain rfl : v = v' := Option.some.inj (ev.symm.trans (by simpa using pv))
    have zl : z < s.heap.objs.size := Heap.lt_size g1
    refine ⟨_, rfl, wpAny_letOwnedTupleGo_zip (s := { s with heap := h', toks := tk }) z' fun h2 z2 sb => ?_⟩
    have low : ∀ c ∈ [z, TI, TO, i1, i2], c < s.heap.objs.size := fun c hc => by
      obtain ⟨o, eo, _⟩ := tnM_obj t0 c hc
      exact Heap.lt_size eo
    have far : ∀ c o, c ∉ [z, TI, TO, i1, i2] → s.heap.get? c = some o → h2.get? c = some o := fun c o n e =>
      (sb.2 c fun q => n (by simp [q])).trans (hk c o (fun q => n (by simp [q])) (fun q => n (by simp [q])) (fun q => n (by simp [q])) (fun q => n (by simp [q])) e)
    have new : ObjOk X.prog X.w (upd H s.heap.objs.size (.tup [x, y])) h2 s.heap.objs.size (.tup [x, y]) :=
      ⟨by show 2 ≤ sizeLine; decide, [u, v], .cons ru (.cons rv .nil), ⟨_, (sb.2 _ (Nat.ne_of_gt zl)).trans hT, rfl, _, rfl⟩⟩
    have I2 : Inv X pins σ (upd H s.heap.objs.size (.tup [x, y])) { s with heap := h2, toks := tk } := I.turnedNew (t' := tk) (ch := [z, TI, TO, i1, i2]) (fun c o n e => far c o n e) hf (Nat.le_refl _) new
    refine ⟨.ref s.heap.objs.size, _, I2, rfl, ⟨_, x, y, rfl, I.hok.fresh (Nat.le_refl _), rfl, fun l hl => by rw [I.tuple_inj hl sx]; exact ex, fun l hl => by rw [I.list_inj hl sy]; exact ey⟩, ⟨z2, ?_, ⟨u, v, ?_⟩, ?_, ?_⟩, fun c hc => ?_⟩
    · exact (sb.2 _ D.TIz).trans (hk _ _ D.TIz D.TITO D.TIi1 D.TIi2 g2)
    · exact (sb.2 _ D.TOz).trans to'
    · exact st1.1.at fun o q => (sb.2 _ D.zi1.symm).trans q
    · exact st2.1.at fun o q => (sb.2 _ D.zi2.symm).trans q
    · rw [upd_ne (Nat.ne_of_lt (low c hc))]
      exact (hf c hc).1
  done := by
    intro X hP hw hK hc i pins s σ H E I hf t hg
    subst hP hw hK
    obtain ⟨g1, g2, ⟨x0, y0, g3⟩, g4, g5⟩ := t
    obtain ⟨xs, ys, sx, sy, le⟩ := hg
    obtain ⟨us, rx, px, _⟩ := I.tuple sx
    obtain ⟨vs, ry, py, _⟩ := I.list sy
    have l1 := rx.length
    have l2 := ry.length
    refine wpAny_pyNext_zipD2_end D (Draws.tuple (A := X.A.in1) (I.ok.hd hc) i1 a ha us.toArray) (Draws.list (A := X.A.in1) (I.ok.hd hc) i2 b hb vs.toArray) g1 g2 g3 ⟨g4, px⟩ ⟨g5, py.isList⟩ (by rw [List.size_toArray]; omega) (by rw [List.size_toArray]; omega) (by rw [List.size_toArray, List.size_toArray]; omega) fun h' tk hk => ?_
    exact ⟨rfl, I.turnedL (t' := tk) (ch := [z, TI, TO, i1, i2]) (fun c o n e => hk c o (fun q => n (by simp [q])) (fun q => n (by simp [q])) (fun q => n (by simp [q])) (fun q => n (by simp [q])) e) hf⟩
  self := fun A i s Q E t h => wpAny_pyIter_zip t.1 h
def iZipM (K : PySem.W.Frag) (ta : TA) : TI := fun σ H R => ta σ H fun vs H1 => ∃ a b xs ys, vs = [.ref a, .ref b] ∧ SqT K H1 a xs ∧ SqL K H1 b ys ∧ R (ItzM K a b) H1
theorem pi_zipM {X : Cx} {e e2 : Expr} {ta : TA} {p pos tpos : Pos} {elts : List Expr} {kk : Nat} (hg : Gl X "zip") (hm : X.mg "zip" = none) (ha : PA X [e, e2] ta)
    (hs : starEach [e, e2] X.env = (false, eval e X.env) :: starEach [e2] X.env := by rfl) (hpl : (backTo pos (starEach [e2] X.env)).any (·.1) = false := by rfl) :
    PI X (.Tuple elts kk tpos) (.Call (.Name "zip" p) [e, e2] [] pos) (iZipM X.K ta) := by
  refine ⟨fun pins s σ H R I h => ?_⟩
  refine Call_ (ld_blt I hg hm PyProof.Rows.boot_zip (PyProof.Rows.callWith_type1 (thn (ha.run pos pins s σ H _ I h) fun us s1 ⟨vs, H1, I1, r1, q1⟩ => ?_) hs hpl))
  obtain ⟨a, b, xs, ys, rfl, sx, sy, q⟩ := q1
  obtain ⟨u, us', rfl, ru, r2⟩ : ∃ u us', us = u :: us' ∧ RelV (.ref a) u ∧ Vals [V.ref b] us' := by cases r1 with | cons r rr => exact ⟨_, _, rfl, r, rr⟩
  obtain ⟨v, rfl, rv⟩ := vals1 r2
  cases ru
  cases rv
  obtain ⟨as, rx, px, _⟩ := I1.tuple sx
  obtain ⟨bs, ry, py, _⟩ := I1.list sy
  have la : a < s1.heap.objs.size := by obtain ⟨o, eo, _⟩ := id px; exact Heap.lt_size eo
  have lb : b < s1.heap.objs.size := py.lt
  generalize hN : s1.heap.objs.size = N at la lb
  have S : ZipSep2 (N + 4) (N + 2) (N + 3) N (N + 1) [N, a] [N + 1, b] := zip_sep2 (fp1 := [a]) (fp2 := [b]) (fun c hc => by rw [List.mem_singleton.mp hc]; exact la) (fun c hc => by rw [List.mem_singleton.mp hc]; exact lb)
  refine zip_begins2 (begins_tuple a as.toArray) (begins_list b bs.toArray) px py.isList fun h' hz hTI hTO g1 g2 hsz hk => wpAny_pyIter_zip hz ?_
  rw [hN] at hz hTI hTO g1 g2 hsz
  have I2 : Inv X pins σ H1 { s1 with heap := h' } := I1.kept (t' := s1.toks) hk
  have fr : ∀ c ∈ [N + 4, N + 2, N + 3, N, N + 1], FpOk X pins H1 c := fun c hc => by
    have le : s1.heap.objs.size ≤ c := by
      rw [hN]
      rcases five hc with rfl | rfl | rfl | rfl | rfl
      · exact Nat.le_add_right _ _
      · exact Nat.le_add_right _ _
      · exact Nat.le_add_right _ _
      · exact Nat.le_refl _
      · exact Nat.le_add_right _ _
    exact I1.fpOk le (I1.hok.fresh le)
  exact ⟨N + 4, [N + 4, N + 2, N + 3, N, N + 1], _, _, H1, by rw [hN], I2, turn_zipM S (Nat.ne_of_lt la) (Nat.ne_of_lt (Nat.lt_succ_of_lt lb)), ⟨hz, hTI, ⟨_, _, hTO⟩, ⟨_, g1, rfl, rfl⟩, ⟨_, g2, rfl, rfl⟩⟩, fr, q⟩
end Wr
namespace Wr
open PySem PySem.Spec L2
open PyProof.Rows hiding St
section
variable {g : Gm} {W : WX} {X : Cx} {pos : Pos} {es : List Expr} {ss : List Sm} (C : CtxOk g X)
include C
theorem rngD_rel {H : Hp} {O : AP1} (a b : Int) : RDs g H O (rgV a b) (rngD a b) := by
  have e1 : rgV a b = ((List.range (b - a).toNat).map fun i => a + ((i : Nat) : Int)).map V.int := by unfold rgV; rw [List.map_map]; rfl
  have e2 : rngD a b = ((List.range (b - a).toNat).map fun i => a + ((i : Nat) : Int)).map D.int := by unfold rngD; rw [List.map_map]; rfl
  rw [e1, e2]
  exact RDs.ints _
omit C in
theorem rngOk_ok {a b : Int} (h : rngOk a b = true) : RgOk a b := by
  exact of_okB h
omit C in
theorem rngK_ok {σ : St} {ρ ρ1 : Rho} {H : Hp} {O : AP1} {ds : List D} {K : List D → Rho → Prop} (q : RW W g σ ρ H O (rngK ds ρ1) K) : ∃ a b, rngEnds ds = some (a, b) ∧ RgOk a b ∧ K (rngD a b) ρ1 := by
  unfold rngK at q
  split at q
  · rename_i a b e
    by_cases hr : rngOk a b = true
    · rw [if_pos hr] at q
      exact ⟨a, b, e, rngOk_ok hr, q⟩
    · rw [if_neg hr] at q
      exact q.elim
  · exact q.elim
omit C in
theorem dg_use {σ : St} {H : Hp} {Q : Int → Int → Hp → Prop} {ρ : Rho} {O : AP1} {k : List D → Rs} {K : Rs → Rho → Prop} (S : StR g H O σ ρ) (q : RW W g σ ρ H O (rngV k ss ρ) K)
    (next : ∀ a b ρ1 H1 O1, Stp g σ ρ H O ρ1 H1 O1 → RgOk a b → K (k (rngD a b)) ρ1 → Q a b H1) : tRg g W (evEs ss) σ H Q := by
  refine ⟨O, ρ, S, (RW.bd (RW.bd q)).imp fun ds ρ1 q1 => ?_⟩
  obtain ⟨a, b, e, ok, q2⟩ := rngK_ok q1
  exact ⟨a, b, e, fun H1 O1 s1 => next a b ρ1 H1 O1 s1 ok q2⟩
theorem de_rngL {p p2 pos2 : Pos} (hg : Gl X "list") (hm : X.mg "list" = none) (hg2 : Gl X "range") (hm2 : X.mg "range" = none) (h : Paired (AS g W X) es ss) (hl : es.length = 1 ∨ es.length = 2) :
    PE X (.Call (.Name "list" p) [.Call (.Name "range" p2) es [] pos2] [] pos) (tE g W (rngV (fun ds => .fr (.lst ds)) ss)) := by
  refine peImp (pe_listRg C.calm hg hm (dg_range hg2 hm2 h hl)) fun σ H Q ⟨O, ρ, S, q⟩ => ?_
  refine dg_use S q fun a b ρ1 H1 O1 s1 ok q1 => ⟨ok, Mk1.lst (g := g) (O := O1) (ds := rngD a b) (rngD_rel C a b) fun v H' O' n => ?_⟩
  obtain ⟨s2, rv⟩ := n.stp s1.st
  exact q1 v H' O' (s1.trans s2) (rv.base s1.fr.there)
theorem de_rngT {p p2 pos2 : Pos} (hg : Gl X "tuple") (hm : X.mg "tuple" = none) (hg2 : Gl X "range") (hm2 : X.mg "range" = none) (h : Paired (AS g W X) es ss) (hl : es.length = 1 ∨ es.length = 2) :
    PE X (.Call (.Name "tuple" p) [.Call (.Name "range" p2) es [] pos2] [] pos) (tE g W (rngV (fun ds => .sh (.tup ds)) ss)) := by
  refine peImp (pe_tupRg C.calm hg hm (dg_range hg2 hm2 h hl)) fun σ H Q ⟨O, ρ, S, q⟩ => ?_
  refine dg_use S q fun a b ρ1 H1 O1 s1 ok q1 => ⟨ok, Mk1.tup (g := g) (O := O1) (ds := rngD a b) s1.st.obj (rngD_rel C a b) fun v H' O' n => ?_⟩
  obtain ⟨s2, rv⟩ := n.stp s1.st
  exact q1 v H' O' (s1.trans s2) rv
end
/-- J walks the items ds as long as the heap only grows from H1 (apart from what is not of O's others) -/
structure Wk (g : Gm) (H1 : Hp) (O1 : AP1) (J : It) (ds : List D) where
  G : Hp → Prop
  Y : Nat → Hp → V → Hp → Prop
  walk : Walk J ds.length G Y
  good : ∀ W H O, Fr W H1 O1 H O → (∀ b, W b → O1 b) → G H
  item : ∀ W H O i v H' d, Fr W H1 O1 H O → (∀ b, W b → O1 b) → (∀ b, O b → H b ≠ none) → Y i H v H' → ds[i]? = some d → RD g H' O v d ∧ (H' = H ∨ ∃ T o, H T = none ∧ H' = upd H T o)
def tI (g : Gm) (W : WX) (f : Rho → Re (List D)) : TI := fun σ H R => ∃ O ρ, StR g H O σ ρ ∧ RW W g σ ρ H O (f ρ) fun ds ρ' => ∀ J H' O', Stp g σ ρ H O ρ' H' O' → Nonempty (Wk g H' O' J ds) → R J H'
theorem piImp {X : Cx} {tg e : Expr} {t t' : TI} (h : PI X tg e t) (f : ∀ σ H Q, t' σ H Q → t σ H Q) : PI X tg e t' := ⟨fun pins s σ H Q I q => h.run pins s σ H Q I (f σ H Q q)⟩
section
variable {g : Gm} {W : WX} {X : Cx} {pos : Pos} {tg e : Expr} {es : List Expr} {ss : List Sm} (C : CtxOk g X)
def wk_list {H1 : Hp} {O1 : AP1} {a : Addr} {xs : List V} {ds : List D} (h : LsO g.K H1 O1 a xs) (hs : RDs g H1 O1 xs ds) : Wk g H1 O1 (Itl g.K a) ds where
  G := fun H => SqL g.K H a xs
  Y := YAt xs
  walk := by rw [← hs.len]; exact walk_list
  good := fun W H O f hW => (h.fr f hW).sq
  item := fun W H O i v H' d f hW ob y e => by
    obtain ⟨rfl, y⟩ := y
    obtain ⟨w, ew, r⟩ := hs.get e
    rw [y] at ew
    cases ew
    exact ⟨r.fr f hW, .inl rfl⟩
def wk_tup {H1 : Hp} {O1 : AP1} {a : Addr} {xs : List V} {ds : List D} (h : TpO g.K H1 O1 a xs) (hs : RDs g H1 O1 xs ds) : Wk g H1 O1 (Itt g.K a) ds where
  G := fun H => SqT g.K H a xs
  Y := YAt xs
  walk := by rw [← hs.len]; exact walk_tup
  good := fun W H O f hW => (h.fr f hW).sq
  item := fun W H O i v H' d f hW ob y e => by
    obtain ⟨rfl, y⟩ := y
    obtain ⟨w, ew, r⟩ := hs.get e
    rw [y] at ew
    cases ew
    exact ⟨r.fr f hW, .inl rfl⟩
theorem enu_get {xs : List D} {i : Nat} {d : D} (h : (enuD xs)[i]? = some d) : ∃ x, xs[i]? = some x ∧ d = .tup [.int (i : Nat), x] := by
  unfold enuD at h
  rw [List.getElem?_map, List.getElem?_zipIdx] at h
  cases q : xs[i]? with
  | none => rw [q] at h; simp at h
  | some x =>
    rw [q] at h
    simp at h
    exact ⟨x, rfl, h.symm⟩
theorem enu_item {H1 H H' : Hp} {O1 O : AP1} {xs : List V} {ds : List D} {i : Nat} {v : V} {d : D} {W : AP1} (hs : RDs g H1 O1 xs ds) (f : Fr W H1 O1 H O) (hW : ∀ b, W b → O1 b) (ob : ∀ b, O b → H b ≠ none)
    (y : YPair (fun i => some (.int (i : Nat))) (fun i => xs[i]?) i H v H') (e : (enuD ds)[i]? = some d) : RD g H' O v d ∧ (H' = H ∨ ∃ T o, H T = none ∧ H' = upd H T o) := by
  obtain ⟨x, ex, rfl⟩ := enu_get e
  obtain ⟨T, n, z, rfl, nT, rfl, e1, e2⟩ := y
  cases e1
  obtain ⟨w, ew, r⟩ := hs.get ex
  have e2' : xs[i]? = some z := e2
  obtain rfl : w = z := Option.some.inj (ew.symm.trans e2')
  have r' := (r.fr f hW).fr (up_fr (o := .tup [V.int (i : Nat), w]) (O := O) nT) fun _ z => z.elim
  exact ⟨.tup (.inl ⟨upd_same, fun z => ob T z nT⟩) (.cons (.int _) (.cons r' .nil)), .inr ⟨T, _, nT, rfl⟩⟩
theorem enuD_len (xs : List D) : (enuD xs).length = xs.length := by unfold enuD; rw [List.length_map, List.length_zipIdx]
def wk_enuL {H1 : Hp} {O1 : AP1} {a : Addr} {xs : List V} {ds : List D} (h : LsO g.K H1 O1 a xs) (hs : RDs g H1 O1 xs ds) : Wk g H1 O1 (Ite g.K a) (enuD ds) where
  G := fun H => SqL g.K H a xs
  Y := YPair (fun i => some (.int (i : Nat))) (fun i => xs[i]?)
  walk := by rw [enuD_len, ← hs.len]; exact walk_enum
  good := fun W H O f hW => (h.fr f hW).sq
  item := fun W H O i v H' d f hW ob y e => enu_item hs f hW ob y e
def wk_enuT {H1 : Hp} {O1 : AP1} {a : Addr} {xs : List V} {ds : List D} (h : TpO g.K H1 O1 a xs) (hs : RDs g H1 O1 xs ds) : Wk g H1 O1 (IteT g.K a) (enuD ds) where
  G := fun H => SqT g.K H a xs
  Y := YPair (fun i => some (.int (i : Nat))) (fun i => xs[i]?)
  walk := by rw [enuD_len, ← hs.len]; exact walk_enumT
  good := fun W H O f hW => (h.fr f hW).sq
  item := fun W H O i v H' d f hW ob y e => enu_item hs f hW ob y e
theorem zip_get {xs ys : List D} {i : Nat} {d : D} (h : (List.zipWith (fun x y => D.tup [x, y]) xs ys)[i]? = some d) : ∃ x y, xs[i]? = some x ∧ ys[i]? = some y ∧ d = .tup [x, y] := by
  rw [List.getElem?_zipWith] at h
  cases q : xs[i]? with
  | none => rw [q] at h; cases h
  | some x =>
    cases q2 : ys[i]? with
    | none => rw [q, q2] at h; cases h
    | some y => rw [q, q2] at h; cases h; exact ⟨x, y, rfl, rfl, rfl⟩
theorem zip_item {H1 H H' : Hp} {O1 O : AP1} {xs ys : List V} {ds es : List D} {i : Nat} {v : V} {d : D} {W : AP1} (hs : RDs g H1 O1 xs ds) (hs2 : RDs g H1 O1 ys es) (f : Fr W H1 O1 H O) (hW : ∀ b, W b → O1 b) (ob : ∀ b, O b → H b ≠ none)
    (y : YPair (fun i => xs[i]?) (fun i => ys[i]?) i H v H') (e : (List.zipWith (fun x y => D.tup [x, y]) ds es)[i]? = some d) : RD g H' O v d ∧ (H' = H ∨ ∃ T o, H T = none ∧ H' = upd H T o) := by
  obtain ⟨x, z, ex, ez, rfl⟩ := zip_get e
  obtain ⟨T, n, m, rfl, nT, rfl, e1, e2⟩ := y
  have up : ∀ {w : V} {d : D}, RD g H1 O1 w d → RD g (upd H T (.tup [n, m])) O w d := fun r => (r.fr f hW).fr (up_fr nT) fun _ z => z.elim
  obtain ⟨w, ew, r⟩ := hs.get ex
  obtain ⟨w2, ew2, r2⟩ := hs2.get ez
  have e1' : xs[i]? = some n := e1
  have e2' : ys[i]? = some m := e2
  obtain rfl : w = n := Option.some.inj (ew.symm.trans e1')
  obtain rfl : w2 = m := Option.some.inj (ew2.symm.trans e2')
  exact ⟨.tup (.inl ⟨upd_same, fun z => ob T z nT⟩) (.cons (up r) (.cons (up r2) .nil)), .inr ⟨T, _, nT, rfl⟩⟩
theorem zipW_len (xs ys : List D) : (List.zipWith (fun x y => D.tup [x, y]) xs ys).length = min xs.length ys.length := List.length_zipWith
theorem walk_zipT {K : PySem.W.Frag} {a b : Addr} {xs ys : List V} {n : Nat} (hn : n = min xs.length ys.length) : Walk (RZ.ItzT K a b) n (fun H => SqT K H a xs ∧ SqT K H b ys) (YPair (fun i => xs[i]?) (fun i => ys[i]?)) := by
  subst hn
  refine ⟨fun i _ hi q => ?_, fun _ q => ⟨xs, ys, q.1, q.2, by omega⟩, fun i H v H' _ q y => ?_⟩
  · have h1 : i < xs.length := by omega
    have h2 : i < ys.length := by omega
    exact ⟨xs, ys, xs[i], ys[i], q.1, q.2, by simp [h1], by simp [h2]⟩
  · obtain ⟨T, x, z, h1, h2, h3, h4, h5⟩ := y
    exact ⟨T, x, z, h1, h2, h3, h4 xs q.1, h5 ys q.2⟩
def wk_zipL {H1 : Hp} {O1 : AP1} {a b : Addr} {xs ys : List V} {ds es : List D} (h : LsO g.K H1 O1 a xs) (hs : RDs g H1 O1 xs ds) (h2 : LsO g.K H1 O1 b ys) (hs2 : RDs g H1 O1 ys es) : Wk g H1 O1 (Itz g.K a b) (List.zipWith (fun x y => D.tup [x, y]) ds es) where
  G := fun H => SqL g.K H a xs ∧ SqL g.K H b ys
  Y := YPair (fun i => xs[i]?) (fun i => ys[i]?)
  walk := by rw [zipW_len, ← hs.len, ← hs2.len]; exact walk_zip rfl
  good := fun W H O f hW => ⟨(h.fr f hW).sq, (h2.fr f hW).sq⟩
  item := fun W H O i v H' d f hW ob y e => zip_item hs hs2 f hW ob y e
def wk_zipT {H1 : Hp} {O1 : AP1} {a b : Addr} {xs ys : List V} {ds es : List D} (h : TpO g.K H1 O1 a xs) (hs : RDs g H1 O1 xs ds) (h2 : TpO g.K H1 O1 b ys) (hs2 : RDs g H1 O1 ys es) : Wk g H1 O1 (RZ.ItzT g.K a b) (List.zipWith (fun x y => D.tup [x, y]) ds es) where
  G := fun H => SqT g.K H a xs ∧ SqT g.K H b ys
  Y := YPair (fun i => xs[i]?) (fun i => ys[i]?)
  walk := by rw [zipW_len, ← hs.len, ← hs2.len]; exact walk_zipT rfl
  good := fun W H O f hW => ⟨(h.fr f hW).sq, (h2.fr f hW).sq⟩
  item := fun W H O i v H' d f hW ob y e => zip_item hs hs2 f hW ob y e
theorem walk_zipM {K : PySem.W.Frag} {a b : Addr} {xs ys : List V} {n : Nat} (hn : n = min xs.length ys.length) : Walk (ItzM K a b) n (fun H => SqT K H a xs ∧ SqL K H b ys) (YPair (fun i => xs[i]?) (fun i => ys[i]?)) := by
  subst hn
  refine ⟨fun i _ hi q => ?_, fun _ q => ⟨xs, ys, q.1, q.2, rfl⟩, fun i H v H' _ q y => ?_⟩
  · have h1 : i < xs.length := by omega
    have h2 : i < ys.length := by omega
    exact ⟨xs, ys, xs[i], ys[i], q.1, q.2, by simp [h1], by simp [h2]⟩
  · obtain ⟨T, x, z, h1, h2, h3, h4, h5⟩ := y
    exact ⟨T, x, z, h1, h2, h3, h4 xs q.1, h5 ys q.2⟩
def wk_zipM {H1 : Hp} {O1 : AP1} {a b : Addr} {xs ys : List V} {ds es : List D} (h : TpO g.K H1 O1 a xs) (hs : RDs g H1 O1 xs ds) (h2 : LsO g.K H1 O1 b ys) (hs2 : RDs g H1 O1 ys es) : Wk g H1 O1 (ItzM g.K a b) (List.zipWith (fun x y => D.tup [x, y]) ds es) where
  G := fun H => SqT g.K H a xs ∧ SqL g.K H b ys
  Y := YPair (fun i => xs[i]?) (fun i => ys[i]?)
  walk := by rw [zipW_len, ← hs.len, ← hs2.len]; exact walk_zipM rfl
  good := fun W H O f hW => ⟨(h.fr f hW).sq, (h2.fr f hW).sq⟩
  item := fun W H O i v H' d f hW ob y e => zip_item hs hs2 f hW ob y e
theorem rngD_get {a b : Int} {i : Nat} {d : D} (h : (rngD a b)[i]? = some d) : d = .int (a + (i : Nat)) := by
  unfold rngD at h
  rw [List.getElem?_map] at h
  cases q : (List.range (b - a).toNat)[i]? with
  | none => rw [q] at h; cases h
  | some j =>
    rw [q] at h
    obtain ⟨hl, rfl⟩ := List.getElem?_eq_some_iff.mp q
    rw [List.getElem_range] at h
    cases h
    rfl
theorem rngD_len (a b : Int) : (rngD a b).length = (b - a).toNat := by unfold rngD; rw [List.length_map, List.length_range]
def wk_rng {H1 : Hp} {O1 : AP1} {a b : Int} : Wk g H1 O1 (Itr a (b - a).toNat) (rngD a b) where
  G := fun _ => True
  Y := YFn fun i => .int (a + i)
  walk := by rw [rngD_len]; exact walk_range
  good := fun _ _ _ _ _ => trivial
  item := fun W H O i v H' d f hW ob y e => by
    obtain ⟨rfl, rfl⟩ := y
    rw [rngD_get e]
    exact ⟨.int _, .inl rfl⟩
def wk_rrng {H1 : Hp} {O1 : AP1} {a b : Int} : Wk g H1 O1 (Itc (a + (((b - a).toNat : Nat) : Int) - 1) (-1) (b - a).toNat) (rngD a b).reverse where
  G := fun _ => True
  Y := YFn fun i => .int (a + (((b - a).toNat : Nat) : Int) - 1 + (i : Nat) * (-1))
  walk := by rw [List.length_reverse, rngD_len]; exact walk_rangeC
  good := fun _ _ _ _ _ => trivial
  item := fun W H O i v H' d f hW ob y e => by
    obtain ⟨rfl, rfl⟩ := y
    have hi : i < (rngD a b).length := by
      have := (List.getElem?_eq_some_iff.mp e).1
      rwa [List.length_reverse] at this
    rw [List.getElem?_reverse hi] at e
    rw [rngD_get e]
    have hl := rngD_len a b
    have e2 : a + (((b - a).toNat : Nat) : Int) - 1 + (i : Nat) * (-1) = a + (((rngD a b).length - 1 - i : Nat) : Int) := by rw [hl] at hi ⊢; omega
    show RD g H' O (.int (a + (((b - a).toNat : Nat) : Int) - 1 + (i : Nat) * (-1))) (.int (a + (((rngD a b).length - 1 - i : Nat) : Int))) ∧ _
    rw [e2]
    exact ⟨.int _, .inl rfl⟩
theorem rg3_small {a b c : Int} (h : -1000000 ≤ a ∧ a ≤ 1000000 ∧ -1000000 ≤ b ∧ b ≤ 1000000 ∧ 0 < c ∧ c ≤ 1000) : RgC a b c (Builtin.Range.rangeSize a b c).toNat := by
  obtain ⟨h1, h2, h3, h4, h5, h6⟩ := h
  have sz : 0 ≤ Builtin.Range.rangeSize a b c ∧ Builtin.Range.rangeSize a b c ≤ 2000001 := by
    unfold Builtin.Range.rangeSize
    rw [if_pos h5]
    split
    · have e1 : 0 ≤ (b - a - 1) / c := Int.ediv_nonneg (by omega) (by omega)
      have e2 : (b - a - 1) / c ≤ b - a - 1 := Int.ediv_le_self _ (by omega)
      omega
    · omega
  refine ⟨by omega, by omega, ?_, by omega⟩
  have e3 : Builtin.Range.rangeSize a b c * c ≤ 2000001 * 1000 := Int.mul_le_mul sz.2 h6 (by omega) (by omega)
  have e4 : 0 ≤ Builtin.Range.rangeSize a b c * c := Int.mul_nonneg sz.1 (by omega)
  unfold Builtin.Range.small
  generalize Builtin.Range.rangeSize a b c = z at sz e3 e4 ⊢
  generalize z * c = y at e3 e4 ⊢
  rw [if_pos h5]
  simp only [Builtin.Range.rangeFitsLong, Bool.and_eq_true, Bool.or_eq_true, decide_eq_true_eq, beq_iff_eq]
  omega
def wk_rng3 {H1 : Hp} {O1 : AP1} {a b c : Int} : Wk g H1 O1 (Itc a c (Builtin.Range.rangeSize a b c).toNat) (rng3D a b c) where
  G := fun _ => True
  Y := YFn fun i => .int (a + (i : Nat) * c)
  walk := by
    rw [show (rng3D a b c).length = (Builtin.Range.rangeSize a b c).toNat by unfold rng3D; rw [List.length_map, List.length_range]]
    exact walk_rangeC
  good := fun _ _ _ _ _ => trivial
  item := fun W H O i v H' d f hW ob y e => by
    obtain ⟨rfl, rfl⟩ := y
    unfold rng3D at e
    rw [List.getElem?_map] at e
    obtain ⟨j, ej, rfl⟩ := Option.map_eq_some_iff.mp e
    obtain ⟨hl, rfl⟩ := List.getElem?_eq_some_iff.mp ej
    rw [List.getElem_range]
    exact ⟨.int _, .inl rfl⟩
def wk_sgn {H1 : Hp} {O1 : AP1} {x : Str} : Wk g H1 O1 (Its x) (sgnD x) where
  G := fun _ => True
  Y := fun i H v H' => H' = H ∧ ∃ c, x.cps[i]? = some c ∧ v = .str ⟨#[c]⟩
  walk := by
    have e : (sgnD x).length = x.cps.size := by unfold sgnD; rw [List.length_map, Array.length_toList]
    rw [e]
    exact walk_str
  good := fun _ _ _ _ _ => trivial
  item := fun W H O i v H' d f hW ob y e => by
    obtain ⟨rfl, c, ec, rfl⟩ := y
    unfold sgnD at e
    rw [List.getElem?_map, Array.getElem?_toList, ec] at e
    cases e
    exact ⟨.str _, .inl rfl⟩
theorem pi_seq {te : TE} (h : PE X e te) : PI X tg e (fun σ H R => te σ H fun x H1 => ∃ a, x = .ref a ∧ (((∃ xs, SqL X.K H1 a xs) ∧ R (Itl X.K a) H1) ∨ ((∃ xs, SqT X.K H1 a xs) ∧ R (Itt X.K a) H1))) := by
  refine ⟨fun pins s σ H R I q => thn (h.run pins s σ H _ I q) fun v s1 ⟨x, H1, I1, r1, q1⟩ => ?_⟩
  obtain ⟨a, rfl, q1⟩ := q1
  cases r1
  have fin : ∀ b ∈ [s1.heap.objs.size], FpOk X pins H1 b := fun b hb => by
    obtain rfl : b = s1.heap.objs.size := by simpa using hb
    exact I1.fpOk (Nat.le_refl _) (I1.hok.fresh (Nat.le_refl _))
  rcases q1 with ⟨⟨xs, hq⟩, q⟩ | ⟨⟨xs, hq⟩, q⟩
  · obtain ⟨its, rv, p, hz⟩ := I1.list hq
    exact wpAny_pyIter_list p.isList ⟨_, _, _, _, H1, rfl, I1.kept (t' := s1.toks) fun b o e => Heap.get?_push_of_some _ e, turn_list a _, ⟨_, Heap.get?_push_size _ rfl, rfl, rfl⟩, fin, q⟩
  · obtain ⟨its, rv, p, hz⟩ := I1.tuple hq
    exact wpAny_pyIter_tuple (show s1.heap.IsTuple a its.toArray from p) ⟨_, _, _, _, H1, rfl, I1.kept (t' := s1.toks) fun b o e => Heap.get?_push_of_some _ e, turn_tuple a _, ⟨_, Heap.get?_push_size _ rfl, rfl, rfl⟩, fin, q⟩
include C
theorem di_ex {s : Sm} (h : PE X e (tE g W s.v)) : PI X tg e (tI g W fun ρ => (s.v ρ).bd fun r ρ1 => .of (itemsD r.d) ρ1) := by
  refine piImp (pi_seq h) fun σ H Q ⟨O, ρ, S, q⟩ => ?_
  refine run_s S q fun r ρ1 v H1 O1 s1 rv q1 => ?_
  obtain ⟨xs, ex, q2⟩ := q1.of
  rw [C.hK]
  unfold itemsD at ex
  split at ex
  · rename_i ds ed
    cases ex
    rw [ed] at rv
    cases rv with
    | lst h hs => exact ⟨_, rfl, .inl ⟨⟨_, h.sq⟩, q2 _ H1 O1 s1 ⟨wk_list h hs⟩⟩⟩
  · rename_i ds ed
    cases ex
    rw [ed] at rv
    cases rv with
    | tup h hs => exact ⟨_, rfl, .inr ⟨⟨_, h.sq⟩, q2 _ H1 O1 s1 ⟨wk_tup h hs⟩⟩⟩
  · cases ex
omit C in
theorem di_rng {p : Pos} (hg : Gl X "range") (hm : X.mg "range" = none) (h : Paired (AS g W X) es ss) (hl : es.length = 1 ∨ es.length = 2) : PI X tg (.Call (.Name "range" p) es [] pos) (tI g W (rngI ss)) := by
  match es, ss, h with
  | [a], [sa], .cons h1 .nil =>
    refine piImp (pi_range1 hg hm (pa_cons h1.es.v pa_nil (h1.ns [] _)) (h1.ns [] _)) fun σ H Q ⟨O, ρ, S, q⟩ => ?_
    refine run_s S (RW.bd q) fun r ρ1 v H1 O1 s1 rv q1 => ?_
    obtain ⟨x, y, e, ⟨b1, b2, b3, b4, b5⟩, q2⟩ := rngK_ok (RW.okE q1)
    unfold rngEnds at e
    split at e
    · rename_i n e2
      obtain ⟨rfl, rfl⟩ := Prod.mk.inj (Option.some.inj e)
      rw [(List.cons.inj e2).1] at rv
      cases rv
      have wk := wk_rng (g := g) (H1 := H1) (O1 := O1) (a := 0) (b := n)
      refine ⟨n, rfl, b3, b4, q2 _ H1 O1 s1 ⟨?_⟩⟩
      rw [show n.toNat = (n - 0).toNat by rw [Int.sub_zero]]
      exact wk
    · rename_i e2
      exact absurd (congrArg List.length e2) (by simp)
    · cases e
  | [a, b], [sa, sb], .cons h1 (.cons h2 .nil) =>
    have n2 := h2.ns [] X.env
    refine piImp (pi_range2 hg hm (pa_cons h1.es.v (pa_cons h2.es.v pa_nil n2) (h1.ns [b] _)) ((h1.ns [b] _).trans (by rw [n2]; rfl)) n2) fun σ H Q ⟨O, ρ, S, q⟩ => ?_
    refine run_s S (RW.bd q) fun r ρ1 v H1 O1 s1 rv q1 => run_s s1.st (RW.bd q1) fun r2 ρ2 v2 H2 O2 s2 rv2 q2 => ?_
    obtain ⟨x, y, e, ⟨b1, b2, b3, b4, b5⟩, q3⟩ := rngK_ok (RW.okE q2)
    unfold rngEnds at e
    split at e
    · rename_i e2
      exact absurd (congrArg List.length e2) (by simp)
    · rename_i i j e2
      obtain ⟨rfl, rfl⟩ := Prod.mk.inj (Option.some.inj e)
      rw [(List.cons.inj e2).1] at rv
      rw [(List.cons.inj (List.cons.inj e2).2).1] at rv2
      cases rv
      cases rv2
      exact ⟨i, j, rfl, ⟨b1, b2, b3, b4⟩, q3 _ H2 O2 (s1.trans s2) ⟨wk_rng⟩⟩
    · cases e
  | [], _, _ => simp at hl
  | _ :: _ :: _ :: _, _, _ => simp at hl
omit C in
theorem di_rng3 {p : Pos} (hg : Gl X "range") (hm : X.mg "range" = none) (h : Paired (AS g W X) es ss) (hl : es.length = 3) : PI X tg (.Call (.Name "range" p) es [] pos) (tI g W (rng3I ss)) := by
  match es, ss, h with
  | [a, b, c], [sa, sb, sc], .cons h1 (.cons h2 (.cons h3 .nil)) =>
    have n3 := h3.ns [] X.env
    have n2 := h2.ns [c] X.env
    have n1 := h1.ns [b, c] X.env
    refine piImp (pi_range3 hg hm (pa_cons h1.es.v (pa_cons h2.es.v (pa_cons h3.es.v pa_nil n3) n2) n1) n1 (by rw [n2, n3] <;> rfl)) fun σ H Q ⟨O, ρ, S, q⟩ => ?_
    refine run_s S (RW.bd q) fun r ρ1 v H1 O1 s1 rv q1 => run_s s1.st (RW.bd q1) fun r2 ρ2 v2 H2 O2 s2 rv2 q2 => run_s s2.st (RW.bd q2) fun r3 ρ3 v3 H3 O3 s3 rv3 q3 => ?_
    have q3 : RW W g σ ρ H O (rng3K [r.d, r2.d, r3.d] ρ3) _ := q3
    dsimp only [rng3K] at q3
    split at q3
    · rename_i x y z e
      split at q3
      · rename_i hc
        have rv := (s2.trans s3).rd s1.st rv
        have rv2 := s3.rd s2.st rv2
        have hc : -1000000 ≤ x ∧ x ≤ 1000000 ∧ -1000000 ≤ y ∧ y ≤ 1000000 ∧ 0 < z ∧ z ≤ 1000 := of_okB hc
        rw [(List.cons.inj e).1] at rv
        rw [(List.cons.inj (List.cons.inj e).2).1] at rv2
        rw [(List.cons.inj (List.cons.inj (List.cons.inj e).2).2).1] at rv3
        cases rv
        cases rv2
        cases rv3
        exact ⟨x, y, z, _, rfl, rg3_small hc, q3 _ H3 O3 ((s1.trans s2).trans s3) ⟨wk_rng3⟩⟩
      · exact q3.elim
    · exact q3.elim
omit C in
theorem di_sgn {s : Sm} (h : PE X e (tE g W s.v)) : PI X tg e (tI g W (sgnI s)) := by
  refine piImp (pi_str h) fun σ H Q ⟨O, ρ, S, q⟩ => ?_
  refine run_s S q fun r ρ1 v H1 O1 s1 rv q1 => ?_
  split at q1
  · rename_i x ex
    rw [ex] at rv
    cases rv
    exact ⟨x, rfl, q1 _ H1 O1 s1 ⟨wk_sgn⟩⟩
  · exact q1.elim
omit C in
theorem di_rrng {p p2 pos2 : Pos} (hg2 : Gl X "reversed") (hm2 : X.mg "reversed" = none) (hg : Gl X "range") (hm : X.mg "range" = none) (h : Paired (AS g W X) es ss) (hl : es.length = 1 ∨ es.length = 2) : PI X tg (.Call (.Name "reversed" p2) [.Call (.Name "range" p) es [] pos] [] pos2) (tI g W (rrgI ss)) := by
  refine piImp (pi_revR hg2 hm2 (dg_range hg hm h hl)) fun σ H Q ⟨O, ρ, S, q⟩ => ?_
  refine ⟨O, ρ, S, ?_⟩
  refine RW.bd (RW.bd q) |>.imp fun ds ρ1 q1 => ?_
  obtain ⟨x, y, e, ⟨b1, b2, b3, b4, b5⟩, q2⟩ := rngK_ok q1
  exact ⟨x, y, e, fun H' O' s1 => ⟨b1, b2, b3, b4, q2 _ H' O' s1 ⟨wk_rrng⟩⟩⟩
theorem di_enu {p tpos : Pos} {elts : List Expr} {kk : Nat} {s : Sm} (hg : Gl X "enumerate") (hm : X.mg "enumerate" = none) (h : AS g W X e s) : PI X (.Tuple elts kk tpos) (.Call (.Name "enumerate" p) [e] [] pos) (tI g W (enuI s)) := by
  refine piImp (pi_enumT hg hm (pa_cons h.es.v pa_nil (h.ns [] _)) (h.ns [] _)) fun σ H Q ⟨O, ρ, S, q⟩ => ?_
  refine run_s S q fun r ρ1 v H1 O1 s1 rv q1 => ?_
  rw [C.hK]
  split at q1
  · rename_i xs ex
    unfold itemsD at ex
    split at ex
    · rename_i ds ed
      cases ex
      rw [ed] at rv
      cases rv with
      | lst h hs => exact ⟨_, _, rfl, .inl ⟨h.sq, q1 _ H1 O1 s1 ⟨wk_enuL h hs⟩⟩⟩
    · rename_i ds ed
      cases ex
      rw [ed] at rv
      cases rv with
      | tup h hs => exact ⟨_, _, rfl, .inr ⟨h.sq, q1 _ H1 O1 s1 ⟨wk_enuT h hs⟩⟩⟩
    · cases ex
  · exact q1.elim
omit C in
theorem te_ok {σ : St} {ρ ρ1 : Rho} {H : Hp} {O : AP1} {f : Rho → Re Rs} {r : Rs} {Q : VK} (S : StR g H O σ ρ) (e : f ρ = .ok r ρ1) (next : ∀ v H1 O1, Stp g σ ρ H O ρ1 H1 O1 → RD g H1 O1 v r.d → Q v H1) : tE g W f σ H Q := by
  refine ⟨O, ρ, S, ?_⟩
  rw [e]
  exact fun v H1 O1 s1 r1 => let ⟨O2, s2, r2⟩ := r1.share S s1; next v H1 O2 s2 r2
theorem di_zip {p tpos : Pos} {elts : List Expr} {kk : Nat} {e2 : Expr} {sa sb : Sm} (hg : Gl X "zip") (hm : X.mg "zip" = none) (h : AS g W X e sa) (h2 : AS g W X e2 sb) : PI X (.Tuple elts kk tpos) (.Call (.Name "zip" p) [e, e2] [] pos) (tI g W (zipI sa sb)) := by
  refine ⟨fun pins s σ H R I ⟨O, ρ, S, q⟩ => ?_⟩
  have A := RZ.pi_zipA (X := X) (p := p) (pos := pos) (tpos := tpos) (elts := elts) (kk := kk) hg hm (pa_cons h.es.v (pa_cons h2.es.v pa_nil (h2.ns [] _)) (h.ns [e2] _)) (h.ns [e2] _) (by rw [h2.ns [] _]; rfl)
  have M := pi_zipM (X := X) (p := p) (pos := pos) (tpos := tpos) (elts := elts) (kk := kk) hg hm (pa_cons h.es.v (pa_cons h2.es.v pa_nil (h2.ns [] _)) (h.ns [e2] _)) (h.ns [e2] _) (by rw [h2.ns [] _]; rfl)
  rw [C.hK] at A M
  unfold zipI at q
  cases e1 : sa.v ρ with
  | st => rw [e1] at q; exact q.elim
  | ex x ρ1 =>
    rw [e1] at q
    exact A.run pins s σ H R I ⟨O, ρ, S, by rw [e1]; exact q⟩
  | ok r ρ1 =>
    rw [e1] at q
    have q : RW W g σ ρ H O ((sb.v ρ1).bd fun r2 ρ2 => Re.of (zipD r.d r2.d) ρ2) _ := q
    cases e3 : sb.v ρ1 with
    | st => rw [e3] at q; exact q.elim
    | ex x ρ2 =>
      rw [e3] at q
      exact A.run pins s σ H R I (te_ok S e1 fun v H1 O1 s1 rv => ⟨O1, ρ1, s1.st, by rw [e3]; exact q.rebase s1⟩)
    | ok r2 ρ2 =>
      rw [e3] at q
      have q : RW W g σ ρ H O (Re.of (zipD r.d r2.d) ρ2) _ := q
      obtain ⟨ds, ez, q3⟩ := q.of
      unfold zipD at ez
      split at ez
      · rename_i xs ys d1 d2
        cases ez
        refine A.run pins s σ H R I (te_ok S e1 fun v H1 O1 s1 rv => te_ok s1.st e3 fun v2 H2 O2 s2 rv2 => ?_)
        have rv1 := s2.rd s1.st rv
        rw [d1] at rv1
        rw [d2] at rv2
        cases rv1 with
        | lst h hs => cases rv2 with
          | lst h2 hs2 => exact ⟨_, _, _, _, rfl, .inl ⟨h.sq, h2.sq, q3 _ H2 O2 (s1.trans s2) ⟨wk_zipL h hs h2 hs2⟩⟩⟩
      · rename_i xs ys d1 d2
        cases ez
        refine A.run pins s σ H R I (te_ok S e1 fun v H1 O1 s1 rv => te_ok s1.st e3 fun v2 H2 O2 s2 rv2 => ?_)
        have rv1 := s2.rd s1.st rv
        rw [d1] at rv1
        rw [d2] at rv2
        cases rv1 with
        | tup h hs => cases rv2 with
          | tup h2 hs2 => exact ⟨_, _, _, _, rfl, .inr ⟨h.sq, h2.sq, q3 _ H2 O2 (s1.trans s2) ⟨wk_zipT h hs h2 hs2⟩⟩⟩
      · rename_i xs ys d1 d2
        cases ez
        refine M.run pins s σ H R I (te_ok S e1 fun v H1 O1 s1 rv => te_ok s1.st e3 fun v2 H2 O2 s2 rv2 => ?_)
        have rv1 := s2.rd s1.st rv
        rw [d1] at rv1
        rw [d2] at rv2
        cases rv1 with
        | tup h hs => cases rv2 with
          | lst h2 hs2 => exact ⟨_, _, _, _, rfl, h.sq, h2.sq, q3 _ H2 O2 (s1.trans s2) ⟨wk_zipM h hs h2 hs2⟩⟩
      · cases ez
end
end Wr
namespace Wr
open PySem PySem.Spec L2
open PyProof.Rows hiding St
theorem wipe_get {σ : St} {i : Nat} : ∀ {vs : List Nat}, (wipe σ vs)[i]? = if i ∈ vs then (if i < σ.length then some none else none) else σ[i]?
  | [] => by simp [wipe]
  | v :: vs => by
    unfold wipe
    by_cases hi : v = i
    · subst hi
      by_cases hl : v < σ.length
      · rw [List.getElem?_set_self (by rw [wipe_length]; exact hl)]; simp [hl]
      · rw [List.getElem?_eq_none (by simp [wipe_length]; omega)]; simp [hl]
    · rw [List.getElem?_set_ne hi, wipe_get (vs := vs)]
      have : (i ∈ v :: vs) ↔ i ∈ vs := by simp [Ne.symm hi]
      simp only [this]
theorem wipeR_len {ρ : Rho} : ∀ {vs : List Nat}, (wipeR ρ vs).length = ρ.length
  | [] => rfl
  | v :: vs => by unfold wipeR; rw [List.length_set, wipeR_len]
theorem wipeR_get {ρ : Rho} {i : Nat} : ∀ {vs : List Nat}, (wipeR ρ vs)[i]? = if i ∈ vs then (if i < ρ.length then some .no else none) else ρ[i]?
  | [] => by simp [wipeR]
  | v :: vs => by
    unfold wipeR
    by_cases hi : v = i
    · subst hi
      by_cases hl : v < ρ.length
      · rw [List.getElem?_set_self (by rw [wipeR_len]; exact hl)]; simp [hl]
      · rw [List.getElem?_eq_none (by simp [wipeR_len]; omega)]; simp [hl]
    · rw [List.getElem?_set_ne hi, wipeR_get (vs := vs)]
      have : (i ∈ v :: vs) ↔ i ∈ vs := by simp [Ne.symm hi]
      simp only [this]
theorem wipe_same {σ σ' : St} {vs : List Nat} (hl : σ'.length = σ.length) (h : ∀ i, i ∉ vs → σ'[i]? = σ[i]?) : wipe σ' vs = wipe σ vs := by
  refine List.ext_getElem? fun i => ?_
  rw [wipe_get, wipe_get, hl]
  split
  · rfl
  · rename_i hi; exact h i hi
section
variable {g : Gm} {H : Hp} {O : AP1} {σ : St} {ρ : Rho}
/-- some slots forgotten -/
theorem StR.wipe (S : StR g H O σ ρ) (vs : List Nat) : StR g H O (L2.wipe σ vs) (wipeR ρ vs) := by
  refine ⟨by rw [wipe_length, wipeR_len]; exact S.len, fun i v s e1 e2 => ?_, fun i j s t a e1 o1 e2 o2 f1 f2 => ?_, S.obj, S.tabs⟩
  · rw [wipe_get] at e1
    rw [wipeR_get] at e2
    by_cases hi : i ∈ vs
    · rw [if_pos hi] at e2
      split at e2
      · cases e2; exact .no
      · cases e2
    · rw [if_neg hi] at e1 e2
      exact S.at_ i v s e1 e2
  · have q : ∀ {j : Nat} {s : Sl}, (wipeR ρ vs)[j]? = some s → s.own = true → ρ[j]? = some s ∧ j ∉ vs := fun {j s} e o => by
      rw [wipeR_get] at e
      by_cases hj : j ∈ vs
      · rw [if_pos hj] at e
        split at e
        · cases e; cases o
        · cases e
      · rw [if_neg hj] at e
        exact ⟨e, hj⟩
    obtain ⟨g1, n1⟩ := q e1 o1
    obtain ⟨g2, n2⟩ := q e2 o2
    rw [wipe_get, if_neg n1] at f1
    rw [wipe_get, if_neg n2] at f2
    exact S.one i j s t a g1 o1 g2 o2 f1 f2
theorem Wn.wipe {vs : List Nat} {b : Addr} (h : Wn (L2.wipe σ vs) (wipeR ρ vs) b) : Wn σ ρ b := by
  obtain ⟨i, s, e1, o, e2⟩ := h
  rw [wipeR_get] at e1
  by_cases hi : i ∈ vs
  · rw [if_pos hi] at e1
    split at e1
    · cases e1; cases o
    · cases e1
  · rw [if_neg hi] at e1
    rw [wipe_get, if_neg hi] at e2
    exact ⟨i, s, e1, o, e2⟩
/-- a shared value stored -/
theorem StR.bind {i : Nat} {v : V} {d : D} (S : StR g H O σ ρ) (r : RD g H O v d) : StR g H O (σ.set i (some v)) (ρ.set i (.sh d)) := by
  refine ⟨by rw [List.length_set, List.length_set]; exact S.len, fun j w s e1 e2 => ?_, fun j k s t a e1 o1 e2 o2 f1 f2 => ?_, S.obj, S.tabs⟩
  · by_cases hj : i = j
    · subst hj
      by_cases hl : i < ρ.length
      · rw [List.getElem?_set_self hl] at e2
        rw [List.getElem?_set_self (by rw [S.len]; exact hl)] at e1
        cases e1; cases e2
        exact .sh r
      · rw [List.getElem?_eq_none (by simpa using hl)] at e2; cases e2
    · rw [List.getElem?_set_ne hj] at e1 e2
      exact S.at_ j w s e1 e2
  · have q : ∀ {j : Nat} {s : Sl}, (ρ.set i (.sh d))[j]? = some s → s.own = true → ρ[j]? = some s ∧ i ≠ j := fun {j s} e o => by
      by_cases hj : i = j
      · subst hj
        by_cases hl : i < ρ.length
        · rw [List.getElem?_set_self hl] at e; cases e; cases o
        · rw [List.getElem?_eq_none (by simpa using hl)] at e; cases e
      · rw [List.getElem?_set_ne hj] at e
        exact ⟨e, hj⟩
    obtain ⟨g1, n1⟩ := q e1 o1
    obtain ⟨g2, n2⟩ := q e2 o2
    rw [List.getElem?_set_ne n1] at f1
    rw [List.getElem?_set_ne n2] at f2
    exact S.one j k s t a g1 o1 g2 o2 f1 f2
theorem Wn.bind {i : Nat} {v : Option V} {d : D} {b : Addr} (h : Wn (σ.set i v) (ρ.set i (.sh d)) b) : Wn σ ρ b := by
  obtain ⟨j, s, e1, o, e2⟩ := h
  by_cases hj : i = j
  · subst hj
    by_cases hl : i < ρ.length
    · rw [List.getElem?_set_self hl] at e1; cases e1; cases o
    · rw [List.getElem?_eq_none (by simpa using hl)] at e1; cases e1
  · rw [List.getElem?_set_ne hj] at e1 e2
    exact ⟨j, s, e1, o, e2⟩
end
def gNs : List Nat → TGs
  | [] => gNil
  | i :: is => gCons (gName i) (gNs is)
def gT (K : PySem.W.Frag) : CT → TG
  | .nm i => gName i
  | .tp is => gTup K is.length (gNs is)
/-- slots stored: nothing else is changed -/
structure Bnd (g : Gm) (H : Hp) (O : AP1) (vs : List Nat) (σ : St) (ρ : Rho) (σ' : St) (ρ' : Rho) : Prop where
  st : StR g H O σ' ρ'
  wn : ∀ b, Wn σ' ρ' b → Wn σ ρ b
  out : ∀ i, i ∉ vs → σ'[i]? = σ[i]? ∧ ρ'[i]? = ρ[i]?
  len : σ'.length = σ.length
  io : ∀ (i : Nat) (d : D), ρ[i]? = some (Sl.io d) → ρ'[i]? = some (Sl.io d) ∧ σ'[i]? = σ[i]?
section
variable {g : Gm} {H : Hp} {O : AP1} {σ σ1 σ2 : St} {ρ ρ1 ρ2 : Rho} {vs ws : List Nat}
theorem Bnd.refl (S : StR g H O σ ρ) : Bnd g H O vs σ ρ σ ρ := ⟨S, fun _ z => z, fun _ _ => ⟨rfl, rfl⟩, rfl, fun _ _ e => ⟨e, rfl⟩⟩
theorem Bnd.trans (p : Bnd g H O vs σ ρ σ1 ρ1) (q : Bnd g H O vs σ1 ρ1 σ2 ρ2) : Bnd g H O vs σ ρ σ2 ρ2 :=
  ⟨q.st, fun b z => p.wn b (q.wn b z), fun i n => ⟨(q.out i n).1.trans (p.out i n).1, (q.out i n).2.trans (p.out i n).2⟩, q.len.trans p.len, fun i d e => let ⟨e1, e2⟩ := p.io i d e; let ⟨f1, f2⟩ := q.io i d e1; ⟨f1, f2.trans e2⟩⟩
theorem Bnd.mono (p : Bnd g H O vs σ ρ σ1 ρ1) (h : ∀ i ∈ vs, i ∈ ws) : Bnd g H O ws σ ρ σ1 ρ1 := ⟨p.st, p.wn, fun i n => p.out i fun z => n (h i z), p.len, p.io⟩
theorem bnd_sh {i : Nat} {v : V} {d : D} (S : StR g H O σ ρ) (r : RD g H O v d) (e : setSh i d ρ = some ρ1) : Bnd g H O [i] σ ρ (σ.set i (some v)) ρ1 := by
  unfold setSh at e
  split at e
  · cases e
  · rename_i s hs es
    cases e
    refine ⟨S.bind r, fun b z => z.bind, fun j n => ?_, List.length_set, fun j f q => ?_⟩
    · have hj : i ≠ j := fun z => n (by simp [z])
      rw [List.getElem?_set_ne hj, List.getElem?_set_ne hj]
      exact ⟨rfl, rfl⟩
    · have hj : i ≠ j := fun z => by subst z; rw [q] at es; cases es; exact hs _ rfl
      rw [List.getElem?_set_ne hj, List.getElem?_set_ne hj]
      exact ⟨q, rfl⟩
  · cases e
theorem gNs_of : ∀ {is : List Nat} {vs : List V} {ds : List D} {σ : St} {ρ ρ1 : Rho} {Q : St → Hp → Prop}, StR g H O σ ρ → RDs g H O vs ds → setShs is ds ρ = some ρ1 → (∀ σ1, Bnd g H O is σ ρ σ1 ρ1 → Q σ1 H) → gNs is vs σ H Q
  | [], _, _, _, _, _, _, S, .nil, e, q => by cases e; exact ⟨rfl, q _ (.refl S)⟩
  | i :: is, _, _, σ, ρ, ρ1, Q, S, .cons (v := v) (vs := vs) (d := d) (ds := ds) r rs, e, q => by
    obtain ⟨ρ2, e1, e2⟩ := Option.bind_eq_some_iff.mp (show (setSh i d ρ).bind (setShs is ds) = some ρ1 from e)
    have b1 := bnd_sh S r e1
    refine ⟨v, vs, rfl, gNs_of b1.st rs e2 fun σ1 b2 => q σ1 ?_⟩
    exact (b1.mono fun j hj => by simp at hj; simp [hj]).trans (b2.mono fun j hj => List.mem_cons_of_mem _ hj)
  | [], _, _, _, _, _, _, _, .cons _ _, e, _ => by cases e
  | _ :: _, _, _, _, _, _, _, _, .nil, e, _ => by cases e
theorem setShs_len : ∀ {is : List Nat} {ds : List D} {ρ ρ1 : Rho}, setShs is ds ρ = some ρ1 → is.length = ds.length
  | [], [], _, _, _ => rfl
  | i :: is, d :: ds, ρ, ρ1, e => by
    obtain ⟨ρ2, e1, e2⟩ := Option.bind_eq_some_iff.mp (show (setSh i d ρ).bind (setShs is ds) = some ρ1 from e)
    rw [List.length_cons, List.length_cons, setShs_len e2]
  | [], _ :: _, _, _, e => by cases e
  | _ :: _, [], _, _, e => by cases e
theorem gT_of {tg : CT} {v : V} {d : D} {Q : St → Hp → Prop} (S : StR g H O σ ρ) (r : RD g H O v d) (e : bindT tg d ρ = some ρ1) (q : ∀ σ1, Bnd g H O tg.ix σ ρ σ1 ρ1 → Q σ1 H) : gT g.K tg v σ H Q := by
  cases tg with
  | nm i => exact q _ (bnd_sh S r e)
  | tp is =>
    cases d with
    | tup ds =>
      have e' : setShs is ds ρ = some ρ1 := e
      cases r with
      | tup h hs => exact ⟨_, _, rfl, h.sq, by rw [hs.len, setShs_len e'], gNs_of S hs e' q⟩
    | _ => cases e
end
abbrev WF : WX := fun _ _ _ _ => False
theorem pts_imp {X : Cx} {e : List Expr} {t t' : TT} (h : PTs X e t) (f : ∀ σ H Q, t' σ H Q → t σ H Q) : PTs X e t' := ⟨fun pins s σ H Q I q => h.run pins s σ H Q I (f σ H Q q)⟩
section
variable {g : Gm} {W : WX} {X : Cx} {pos : Pos} (C : CtxOk g X)
theorem ts_nil : PTs X [] (tQ g W (evTs [])) := pts_imp pts_nil fun σ H Q ⟨O, ρ, S, q⟩ => q H O (.refl S)
theorem ts_one {e : Expr} {s : Sm} (h : PT X e (tQ g W s.t)) : PTs X [e] (tQ g W (evTs [s])) := pts_one h
theorem CtxOk.blk (C : CtxOk g X) (s : Shared) (H : Hp) (scope : Scope) (cenv : Env) (fp : List Addr) : CtxOk g (X.blk s H scope cenv fp) := ⟨C.hK, C.hmg, C.hP, C.calm, C.nd, C.gd, C.un⟩
/-- the block's state between two turns: from ρ1, H1, O1 at its start; the new list at D -/
structure LcI (g : Gm) (σ : St) (vs : List Nat) (ρ1 : Rho) (H1 : Hp) (O1 : AP1) (D : Addr) (H : Hp) (O : AP1) (ρ : Rho) (acc : List V) (dacc : List Wr.D) : Prop where
  st : StR g H O (wipe σ vs) ρ
  fr : Fr (Wn σ ρ1) H1 O1 H O
  wn : ∀ b, Wn (wipe σ vs) ρ b → Wn σ ρ1 b
  io : ∀ (i : Nat) (d : Wr.D), i ∉ vs → ρ1[i]? = some (Sl.io d) → ∃ d' : Wr.D, ρ[i]? = some (Sl.io d')
  no : ∀ i ∈ vs, ∀ s, ρ[i]? = some s → s = .no
  new : H1 D = none
  own : O D
  nwn : ¬ Wn (wipe σ vs) ρ D
  at_ : H D = some (.lst acc)
  rel : RDs g H O acc dacc
theorem lcRun_cons {step : Wr.D → Rho → Re (Option Wr.D)} {x : Wr.D} {xs : List Wr.D} {ρ ρ' : Rho} {ds : List Wr.D} (h : lcRun step (x :: xs) ρ = .ok ds ρ') :
    ∃ o ρ1 ds', step x ρ = .ok o ρ1 ∧ lcRun step xs ρ1 = .ok ds' ρ' ∧ ds = o.toList ++ ds' := by
  unfold lcRun at h
  split at h
  · rename_i o ρ1 e1
    split at h
    · rename_i ds' ρ2 e2
      cases h
      exact ⟨o, ρ1, ds', e1, e2, rfl⟩
    · cases h
  · cases h
theorem backR_get {ρ0 ρ : Rho} {i : Nat} (hl : ρ.length = ρ0.length) : ∀ {vs : List Nat}, (backR ρ0 ρ vs)[i]? = (if i ∈ vs then ρ0[i]? else ρ[i]?) ∧ (backR ρ0 ρ vs).length = ρ.length
  | [] => by simp [backR]
  | v :: vs => by
    have ih := @backR_get ρ0 ρ i hl vs
    have e : (i ∈ v :: vs) ↔ (i = v ∨ i ∈ vs) := by simp
    unfold backR
    split
    · rename_i s hs
      refine ⟨?_, by rw [List.length_set]; exact ih.2⟩
      have hv : v < ρ0.length := (List.getElem?_eq_some_iff.mp hs).1
      by_cases hi : v = i
      · subst hi
        rw [List.getElem?_set_self (by rw [ih.2, hl]; exact hv), if_pos (by simp), hs]
      · rw [List.getElem?_set_ne hi, ih.1]
        have : (i ∈ v :: vs) ↔ i ∈ vs := by simp [Ne.symm hi]
        simp only [this]
    · rename_i hs
      refine ⟨?_, ih.2⟩
      rw [ih.1]
      by_cases hi : v = i
      · subst hi
        have hv : ρ0.length ≤ v := List.getElem?_eq_none_iff.mp hs
        have e2 : ρ[v]? = none := List.getElem?_eq_none (by omega)
        rw [e2, hs]
        split <;> simp
      · have : (i ∈ v :: vs) ↔ i ∈ vs := by simp [Ne.symm hi]
        simp only [this]
section
variable {σ : St} {vs : List Nat} {ρ1 ρ ρ' : Rho} {H1 H H' : Hp} {O1 O O' : AP1} {D : Addr} {acc : List V} {dacc : List Wr.D}
theorem LcI.grow (L : LcI g σ vs ρ1 H1 O1 D H O ρ acc dacc) (h : H' = H ∨ ∃ T o, H T = none ∧ H' = upd H T o) : LcI g σ vs ρ1 H1 O1 D H' O ρ acc dacc := by
  rcases h with rfl | ⟨T, o, n, rfl⟩
  · exact L
  · exact ⟨L.st.laid n, L.fr.trans (Fr.laid (W := fun _ => False) n) fun _ z => z.elim, L.wn, L.io, L.no, L.new, L.own, L.nwn, by rw [upd_ne (ne_of_none L.at_ n)]; exact L.at_, L.rel.fr (up_fr n) fun _ z => z.elim⟩
/-- behind a turn's steps -/
theorem LcI.next {σ2 : St} {ρ2 ρ3 : Rho} (L : LcI g σ vs ρ1 H1 O1 D H O ρ acc dacc) (b : Bnd g H O vs (L2.wipe σ vs) ρ σ2 ρ2) (hw : L2.wipe σ2 vs = L2.wipe σ vs) (s : Stp g σ2 ρ2 H O ρ3 H' O') : LcI g σ vs ρ1 H1 O1 D H' O' (wipeR ρ3 vs) acc dacc := by
  have nD : ¬ Wn σ2 ρ2 D := fun z => L.nwn (b.wn D z)
  have wn2 : ∀ c, Wn (L2.wipe σ vs) (wipeR ρ3 vs) c → Wn (L2.wipe σ vs) ρ c := fun c z => by
    rw [← hw] at z
    exact b.wn c (s.sub c z.wipe)
  refine ⟨by rw [← hw]; exact s.st.wipe vs, L.fr.trans s.fr fun c z => L.wn c (b.wn c z), fun c z => L.wn c (wn2 c z), fun i d n e => ?_, fun i hi t e => ?_, L.new, s.fr.o1 D L.own nD, fun z => L.nwn (wn2 D z), s.fr.keep D _ L.at_ nD, L.rel.fr s.fr fun c z => L.st.wn c (b.wn c z)⟩
  · obtain ⟨d', e1⟩ := L.io i d n e
    obtain ⟨e2, _⟩ := b.io i d' e1
    obtain ⟨d2, e3⟩ := s.io i d' e2
    exact ⟨d2, by rw [wipeR_get, if_neg n]; exact e3⟩
  · rw [wipeR_get, if_pos hi] at e
    split at e <;> cases e
    rfl
/-- the new item behind the list -/
theorem LcI.push {y : V} {d : Wr.D} (L : LcI g σ vs ρ1 H1 O1 D H O ρ acc dacc) (r : RD g H O y d) : LcI g σ vs ρ1 H1 O1 D (upd H D (.lst (acc ++ [y]))) O ρ (acc ++ [y]) (dacc ++ [d]) := by
  have f : Fr (fun b => b = D) H O (upd H D (.lst (acc ++ [y]))) O := by
    refine ⟨fun b o e _ n => by rw [upd_ne n]; exact e, fun P n t => tabs_upd L.at_ (fun _ _ z => by cases z) n t, fun b e => ?_, fun _ e _ => e, fun _ e => .inl e⟩
    by_cases hb : b = D
    · subst hb; rw [upd_same] at e; cases e
    · rw [upd_ne hb] at e; exact e
  have hD : ∀ b, b = D → O b := fun b e => by rw [e]; exact L.own
  refine ⟨L.st.fr0 f hD (fun b e z => L.nwn (e ▸ z)) fun b z e => L.st.obj b z (f.there b e), ⟨fun b o e t n => ?_, fun P n t => f.tb P (fun z => by
    obtain ⟨ps, e, _⟩ := t
    rw [z, L.new] at e; cases e) (L.fr.tb P n t), fun b e => L.fr.there b (f.there b e), L.fr.o1, L.fr.o2⟩, L.wn, L.io, L.no, L.new, L.own, L.nwn, upd_same, (L.rel.fr f hD).append (.cons (r.fr f hD) .nil)⟩
  rw [upd_ne fun z => by rw [z, L.new] at e; cases e]
  exact L.fr.kp b o e t n
end
theorem run_i {it : Rho → Re (List Wr.D)} {β : Type} {K : β → Rho → Prop} {k : List Wr.D → Rho → Re β} {σ : St} {ρ : Rho} {H : Hp} {O : AP1} {R : It → Hp → Prop} (S : StR g H O σ ρ) (h : RW W g σ ρ H O ((it ρ).bd k) K)
    (next : ∀ ds ρ1 J H1 O1, Stp g σ ρ H O ρ1 H1 O1 → Wk g H1 O1 J ds → RW W g σ ρ1 H1 O1 (k ds ρ1) K → R J H1) : tI g W it σ H R :=
  ⟨O, ρ, S, (RW.bd h).imp fun ds ρ1 h1 J H1 O1 s1 ⟨wk⟩ => next ds ρ1 J H1 O1 s1 wk (h1.rebase s1)⟩
theorem noOwn_at {ρ : Rho} {vs : List Nat} (h : noOwn ρ vs = true) {i : Nat} (hi : i ∈ vs) : ∃ s, ρ[i]? = some s ∧ s.own = false := by
  unfold noOwn at h
  have z := List.all_eq_true.mp h i hi
  split at z
  · rename_i s e
    exact ⟨s, e, by simpa using z⟩
  · cases z
include C
theorem lc_red {elt tg iter : Expr} {ifs : List Expr} {it : Rho → Re (List Wr.D)} {sifs : List Sm} {se : Sm} {ct : CT} {σ : St} {H : Hp} {Q : VK} (h : tE g W (lcV ct it sifs se) σ H Q) :
    tLc (tI g W it) (gT X.K ct) (tQ g WF (evTs sifs)) (tE g WF se.v) ct.ix σ H Q := by
  obtain ⟨O, ρ, S, q⟩ := h
  refine run_i S q fun xs ρ1 J H1 O1 s1 wk q1 D nD => ?_
  rw [C.hK]
  by_cases hno : noOwn ρ1 ct.ix = true
  · rw [if_pos hno] at q1
    cases er : lcRun (lcTurn ct sifs se) xs (wipeR ρ1 ct.ix) with
    | ok ds ρ5 =>
      rw [er] at q1
      by_cases hz : ds.length < sizeL
      · dsimp only at q1
        rw [if_pos hz] at q1
        refine lc_it wk.walk (fun i H => ∃ O ρ acc dacc rest, LcI g σ ct.ix ρ1 H1 O1 D H O ρ acc dacc ∧ lcRun (lcTurn ct sifs se) (xs.drop i) ρ = .ok rest ρ5 ∧ dacc ++ rest = ds) ?_ ?_ ?_ ?_
        · refine ⟨fun b => O1 b ∨ b = D, wipeR ρ1 ct.ix, [], [], ds, ⟨(s1.st.laidO nD).wipe _, Fr.laidO nD, fun b z => z.wipe, fun i d n e => ⟨d, by rw [wipeR_get, if_neg n]; exact e⟩, fun i hi t e => ?_, nD, .inr rfl, fun z => s1.st.obj D (s1.st.wn D z.wipe) nD, upd_same, .nil⟩, by rw [List.drop_zero]; exact er, rfl⟩
          rw [wipeR_get, if_pos hi] at e
          split at e <;> cases e
          rfl
        · rintro i H _ ⟨O, ρ, acc, dacc, rest, L, _⟩
          exact wk.good _ H O L.fr s1.st.wn
        · rintro i x H H' hi ⟨O, ρ, acc, dacc, rest, L, er, ed⟩ y
          obtain ⟨d, hd⟩ : ∃ d, xs[i]? = some d := ⟨xs[i], by simp [hi]⟩
          have edrop : xs.drop i = d :: xs.drop (i + 1) := by
            rw [List.drop_eq_getElem_cons hi]
            rw [List.getElem?_eq_getElem hi] at hd
            cases hd
            rfl
          rw [edrop] at er
          obtain ⟨o, ρn, rest', es, er', rfl⟩ := lcRun_cons er
          obtain ⟨rd, gr⟩ := wk.item _ H O i x H' d L.fr s1.st.wn L.st.obj y hd
          have L' := L.grow gr
          unfold lcTurn at es
          split at es
          · rename_i ρ2 eb
            refine gT_of L'.st rd eb fun σ2 b => ?_
            have hw : L2.wipe σ2 ct.ix = L2.wipe σ ct.ix := wipe_same (by rw [b.len, wipe_length]) fun j n => by rw [(b.out j n).1, wipe_get, if_neg n]
            refine ⟨hw, O, ρ2, b.st, ?_⟩
            cases et : evTs sifs ρ2 with
            | ok c ρ3 =>
              rw [et] at es
              refine fun H3 O3 s3 => ?_
              cases c with
              | true =>
                rw [if_pos rfl]
                have es : ((se.v ρ3).bd fun r ρ4 => Re.ok (some r.d) (wipeR ρ4 ct.ix)) = Re.ok o ρn := es
                refine ⟨O3, ρ3, s3.st, ?_⟩
                cases ev : se.v ρ3 with
                | ok r ρ4 =>
                  rw [ev] at es
                  cases es
                  refine fun v H4 O4 s4 rv => ?_
                  obtain ⟨O5, s5, rv5⟩ := rv.share s3.st s4
                  have L2 := L'.next b hw (s3.trans s5)
                  refine ⟨acc, L2.at_, ?_, O5, _, _, _, rest', L2.push rv5, er', by rw [← ed]; simp⟩
                  rw [L2.rel.len, ← sizeL_eq]
                  have := congrArg List.length ed
                  simp only [List.length_append] at this
                  omega
                | ex x' ρ4 => rw [ev] at es; cases es
                | st => rw [ev] at es; cases es
              | false =>
                rw [if_neg Bool.false_ne_true]
                cases es
                exact ⟨O3, _, acc, dacc, rest', L'.next b hw s3, er', by rw [← ed]; simp⟩
            | ex x' ρ3 => rw [et] at es; cases es
            | st => rw [et] at es; cases es
          · cases es
        · rintro H' ⟨O', ρ', acc, dacc, rest, L, er', ed⟩
          rw [List.drop_length] at er'
          cases er'
          rw [List.append_nil] at ed
          subst ed
          have hlen : ρ5.length = ρ1.length := by rw [← L.st.len, wipe_length, s1.st.len]
          have bk := fun i => (backR_get (i := i) hlen (vs := ct.ix)).1
          have own_out : ∀ {i : Nat} {s : Sl}, (backR ρ1 ρ5 ct.ix)[i]? = some s → s.own = true → i ∉ ct.ix ∧ ρ5[i]? = some s := fun {i s} e o => by
            rw [bk] at e
            by_cases hi : i ∈ ct.ix
            · rw [if_pos hi] at e
              obtain ⟨s', e', o'⟩ := noOwn_at hno hi
              rw [e] at e'
              cases e'
              rw [o] at o'
              cases o'
            · rw [if_neg hi] at e
              exact ⟨hi, e⟩
          have sub : ∀ b, Wn σ (backR ρ1 ρ5 ct.ix) b → Wn (wipe σ ct.ix) ρ5 b := fun b ⟨i, s, e1, o, e2⟩ => by
            obtain ⟨n, e⟩ := own_out e1 o
            exact ⟨i, s, e, o, by rw [wipe_get, if_neg n]; exact e2⟩
          have stf : StR g H' O' σ (backR ρ1 ρ5 ct.ix) := by
            refine ⟨by rw [(backR_get (i := 0) hlen (vs := ct.ix)).2, ← L.st.len, wipe_length], fun i v s e1 e2 => ?_, fun i j s t a e1 o1 e2 o2 f1 f2 => ?_, L.st.obj, L.st.tabs⟩
            · rw [bk] at e2
              by_cases hi : i ∈ ct.ix
              · rw [if_pos hi] at e2
                obtain ⟨s', e', o'⟩ := noOwn_at hno hi
                rw [e2] at e'
                cases e'
                have z := s1.st.at_ i v s e1 e2
                cases z with
                | no => exact .no
                | sh r => exact .sh (r.fr L.fr s1.st.wn)
                | ow _ _ => cases o'
                | io _ _ => cases o'
              · rw [if_neg hi] at e2
                exact L.st.at_ i v s (by rw [wipe_get, if_neg hi]; exact e1) e2
            · obtain ⟨n1, g1⟩ := own_out e1 o1
              obtain ⟨n2, g2⟩ := own_out e2 o2
              exact L.st.one i j s t a g1 o1 g2 o2 (by rw [wipe_get, if_neg n1]; exact f1) (by rw [wipe_get, if_neg n2]; exact f2)
          refine q1 _ H' O' (s1.trans ⟨L.fr, stf, fun b z => L.wn b (sub b z), fun i d e => ?_⟩) ⟨D, rfl, s1.fr.there D nD, L.own, fun z => L.nwn (sub D z), .lst L.at_ L.rel⟩
          have n : i ∉ ct.ix := fun hi => by
            obtain ⟨s', e', o'⟩ := noOwn_at hno hi
            rw [e] at e'
            cases e'
            cases o'
          obtain ⟨d', e'⟩ := L.io i d n e
          exact ⟨d', by rw [bk, if_neg n]; exact e'⟩
      · dsimp only at q1
        rw [if_neg hz] at q1
        exact q1.elim
    | ex x ρ5 => rw [er] at q1; exact q1.elim
    | st => rw [er] at q1; exact q1.elim
  · rw [if_neg hno] at q1
    exact q1.elim
variable {elt tg iter : Expr} {ifs : List Expr} {scope : Scope} {own : List (Str × Nat)} {it : Rho → Re (List Wr.D)} {sifs : List Sm} {se : Sm} {ct : CT}
theorem de_lc (hi : PI X tg iter (tI g W it)) (ok : BlkOk X.N X.env.scope scope own) (hix : own.map (·.2) = ct.ix)
    (hg : ∀ (s : Shared) (H : Hp) (C : Addr) (cl : List (Str × Addr)) (fp : List Addr), PG (X.blk s H scope (compEnvC scope cl C X.env) fp) tg (gT X.K ct)) (ht : ∀ (s : Shared) (H : Hp) (C : Addr) (cl : List (Str × Addr)) (fp : List Addr), PTs (X.blk s H scope (compEnvC scope cl C X.env) fp) ifs (tQ g WF (evTs sifs)))
    (he : ∀ (s : Shared) (H : Hp) (C : Addr) (cl : List (Str × Addr)) (fp : List Addr), PE (X.blk s H scope (compEnvC scope cl C X.env) fp) elt (tE g WF se.v)) (hs : ∀ x, foldedSetIterable iter X.env x = pure x) :
    PE X (.ListComp elt [⟨tg, iter, ifs, 0⟩] scope pos) (tE g W (lcV ct it sifs se)) := by
  have h := pe_lc (pos := pos) C.calm C.nd hi ok hg ht he hs
  rw [hix] at h
  exact peImp h fun σ H Q q => lc_red (elt := elt) (tg := tg) (iter := iter) (ifs := ifs) C q
structure LcJ (g : Gm) (σ σ' : St) (vs : List Nat) (ρ1 : Rho) (H1 : Hp) (O1 : AP1) (D : Addr) (H : Hp) (O : AP1) (ρ : Rho) (acc : List V) (dacc : List Wr.D) : Prop where
  st : StR g H O σ' ρ
  fr : Fr (Wn σ ρ1) H1 O1 H O
  wn : ∀ b, Wn σ' ρ b → Wn σ ρ1 b
  io : ∀ (i : Nat) (d : Wr.D), i ∉ vs → ρ1[i]? = some (Sl.io d) → ∃ d' : Wr.D, ρ[i]? = some (Sl.io d')
  new : H1 D = none
  own : O D
  nwn : ¬ Wn σ' ρ D
  at_ : H D = some (.lst acc)
  rel : RDs g H O acc dacc
omit C in
section
variable {σ σ' σ2 : St} {vs ws : List Nat} {ρ1 ρ ρ' ρ2 : Rho} {H1 H H' : Hp} {O1 O O' : AP1} {D : Addr} {acc : List V} {dacc : List Wr.D}
omit C in
theorem LcJ.grow (L : LcJ g σ σ' vs ρ1 H1 O1 D H O ρ acc dacc) (h : H' = H ∨ ∃ T o, H T = none ∧ H' = upd H T o) : LcJ g σ σ' vs ρ1 H1 O1 D H' O ρ acc dacc := by
  rcases h with rfl | ⟨T, o, n, rfl⟩
  · exact L
  · exact ⟨L.st.laid n, L.fr.trans (Fr.laid (W := fun _ => False) n) fun _ z => z.elim, L.wn, L.io, L.new, L.own, L.nwn, by rw [upd_ne (ne_of_none L.at_ n)]; exact L.at_, L.rel.fr (up_fr n) fun _ z => z.elim⟩
omit C in
theorem LcJ.step (L : LcJ g σ σ' vs ρ1 H1 O1 D H O ρ acc dacc) (s : Stp g σ' ρ H O ρ' H' O') : LcJ g σ σ' vs ρ1 H1 O1 D H' O' ρ' acc dacc :=
  ⟨s.st, L.fr.trans s.fr fun c z => L.wn c z, fun c z => L.wn c (s.sub c z), fun i d n e => by
    obtain ⟨d', e1⟩ := L.io i d n e
    exact s.io i d' e1, L.new, s.fr.o1 D L.own L.nwn, fun z => L.nwn (s.sub D z), s.fr.keep D _ L.at_ L.nwn, L.rel.fr s.fr fun c z => L.st.wn c z⟩
omit C in
theorem LcJ.bnd (L : LcJ g σ σ' vs ρ1 H1 O1 D H O ρ acc dacc) (b : Bnd g H O ws σ' ρ σ2 ρ2) : LcJ g σ σ2 vs ρ1 H1 O1 D H O ρ2 acc dacc :=
  ⟨b.st, L.fr, fun c z => L.wn c (b.wn c z), fun i d n e => by
    obtain ⟨d', e1⟩ := L.io i d n e
    exact ⟨d', (b.io i d' e1).1⟩, L.new, L.own, fun z => L.nwn (b.wn D z), L.at_, L.rel⟩
omit C in
theorem LcJ.wipe (L : LcJ g σ σ' vs ρ1 H1 O1 D H O ρ acc dacc) (hs : ∀ i ∈ ws, i ∈ vs) : LcJ g σ (L2.wipe σ' ws) vs ρ1 H1 O1 D H O (wipeR ρ ws) acc dacc :=
  ⟨L.st.wipe ws, L.fr, fun c z => L.wn c z.wipe, fun i d n e => by
    obtain ⟨d', e1⟩ := L.io i d n e
    exact ⟨d', by rw [wipeR_get, if_neg fun z => n (hs i z)]; exact e1⟩, L.new, L.own, fun z => L.nwn z.wipe, L.at_, L.rel⟩
omit C in
theorem LcJ.push {y : V} {d : Wr.D} (L : LcJ g σ σ' vs ρ1 H1 O1 D H O ρ acc dacc) (r : RD g H O y d) : LcJ g σ σ' vs ρ1 H1 O1 D (upd H D (.lst (acc ++ [y]))) O ρ (acc ++ [y]) (dacc ++ [d]) := by
  have f : Fr (fun b => b = D) H O (upd H D (.lst (acc ++ [y]))) O := by
    refine ⟨fun b o e _ n => by rw [upd_ne n]; exact e, fun P n t => tabs_upd L.at_ (fun _ _ z => by cases z) n t, fun b e => ?_, fun _ e _ => e, fun _ e => .inl e⟩
    by_cases hb : b = D
    · subst hb; rw [upd_same] at e; cases e
    · rw [upd_ne hb] at e; exact e
  have hD : ∀ b, b = D → O b := fun b e => by rw [e]; exact L.own
  refine ⟨L.st.fr0 f hD (fun b e z => L.nwn (e ▸ z)) fun b z e => L.st.obj b z (f.there b e), ⟨fun b o e t n => ?_, fun P n t => f.tb P (fun z => by
    obtain ⟨ps, e, _⟩ := t
    rw [z, L.new] at e; cases e) (L.fr.tb P n t), fun b e => L.fr.there b (f.there b e), L.fr.o1, L.fr.o2⟩, L.wn, L.io, L.new, L.own, L.nwn, upd_same, (L.rel.fr f hD).append (.cons (r.fr f hD) .nil)⟩
  rw [upd_ne fun z => by rw [z, L.new] at e; cases e]
  exact L.fr.kp b o e t n
end
omit C in
/-- a walk from any heap -/
theorem walk_it {J : It} {n : Nat} {G : Hp → Prop} {Y : Nat → Hp → V → Hp → Prop} (w : Walk J n G Y) {Qd : Hp → Prop} {Hs : Hp} {R : Nat → Hp → V → Hp → (Hp → Prop) → Prop} (Pv : Nat → Hp → Prop) (h0 : Pv 0 Hs) (hG : ∀ i H, i ≤ n → Pv i H → G H)
    (hs : ∀ i x H H', i < n → Pv i H → Y i H x H' → R i H x H' (Pv (i + 1))) (hd : ∀ H, Pv n H → Qd H) :
    ∃ W : Nat → Nat → Hp → Prop, (∃ m, W 0 m Hs) ∧ ∀ i m H, W i m H →
      (J.stop i H ∧ Qd H) ∨ (J.go i H ∧ ∃ Nx : Hp → Prop, (∀ H', Nx H' → ∃ m', m' < m ∧ W (i + 1) m' H') ∧ ∀ x H', J.yld i H x H' → R i H x H' Nx) := by
  refine ⟨fun i m H => m = n - i ∧ i ≤ n ∧ Pv i H, ⟨n, by simp, Nat.zero_le _, h0⟩, ?_⟩
  rintro i m H ⟨rfl, hi, p⟩
  have q := hG i H hi p
  by_cases hlt : i < n
  · exact .inr ⟨w.goes i H hlt q, Pv (i + 1), fun H' p' => ⟨n - (i + 1), by omega, rfl, hlt, p'⟩, fun x H' y => hs i x H H' hlt p (w.yields i H x H' hlt q y)⟩
  · have e : i = n := by omega
    subst e
    exact .inl ⟨w.stops H q, hd H p⟩
omit C in
theorem lcRun2_cons {step : Wr.D → Rho → Re (List Wr.D)} {x : Wr.D} {xs : List Wr.D} {ρ ρ' : Rho} {ds : List Wr.D} (h : lcRun2 step (x :: xs) ρ = .ok ds ρ') :
    ∃ o ρ1 ds', step x ρ = .ok o ρ1 ∧ lcRun2 step xs ρ1 = .ok ds' ρ' ∧ ds = o ++ ds' := by
  unfold lcRun2 at h
  split at h
  · rename_i o ρ1 e1
    split at h
    · rename_i ds' ρ2 e2
      cases h
      exact ⟨o, ρ1, ds', e1, e2, rfl⟩
    · cases h
  · cases h
omit C in
theorem wipe_wipe {σ2 : St} {vs ws : List Nat} (hs : ∀ i ∈ ws, i ∈ vs) : L2.wipe (L2.wipe σ2 ws) vs = L2.wipe σ2 vs := by
  refine List.ext_getElem? fun i => ?_
  rw [wipe_get, wipe_get, wipe_get, wipe_length]
  by_cases h : i ∈ vs
  · rw [if_pos h, if_pos h]
  · rw [if_neg h, if_neg h, if_neg fun z => h (hs i z)]
theorem lc2_red {elt tg iter : Expr} {it it1 : Rho → Re (List Wr.D)} {se : Sm} {ct ct1 : CT} {σ : St} {H : Hp} {Q : VK} (h : tE g W (lc2V ct it ct1 it1 se) σ H Q) :
    tLc2 (tI g W it) (gT X.K ct) (tQ g WF (evTs [])) (tI g WF it1) (gT X.K ct1) (tQ g WF (evTs [])) (tE g WF se.v) (ct.ix ++ ct1.ix) ct1.ix σ H Q := by
  obtain ⟨O, ρ, S, q⟩ := h
  have hs1 : ∀ i ∈ ct1.ix, i ∈ ct.ix ++ ct1.ix := fun i hi => List.mem_append_right _ hi
  have hs0 : ∀ i ∈ ct.ix, i ∈ ct.ix ++ ct1.ix := fun i hi => List.mem_append_left _ hi
  refine run_i S q fun xs ρ1 J H1 O1 s1 wk q1 D nD => ?_
  rw [C.hK]
  by_cases hno : noOwn ρ1 (ct.ix ++ ct1.ix) = true
  · rw [if_pos hno] at q1
    cases er : lcRun2 (lc2Turn ct ct1 it1 se) xs (wipeR ρ1 (ct.ix ++ ct1.ix)) with
    | ok ds ρ5 =>
      rw [er] at q1
      by_cases hz : ds.length < sizeL
      · dsimp only at q1
        rw [if_pos hz] at q1
        refine walk_it wk.walk (R := fun i H x H' Nx => gT g.K ct x (L2.wipe σ (ct.ix ++ ct1.ix)) H' fun σ2 H2 => L2.wipe σ2 (ct.ix ++ ct1.ix) = L2.wipe σ (ct.ix ++ ct1.ix) ∧ tQ g WF (evTs []) σ2 H2 fun b H3 =>
            if b = true then tI g WF it1 σ2 H3 fun J1 H4 => ∃ W1 : Nat → Nat → Hp → Prop, (∃ m, W1 0 m H4) ∧ ∀ j k H, W1 j k H →
              (J1.stop j H ∧ Nx H) ∨ (J1.go j H ∧ ∃ Nx1 : Hp → Prop, (∀ H', Nx1 H' → ∃ k', k' < k ∧ W1 (j + 1) k' H') ∧ ∀ x H', J1.yld j H x H' → gT g.K ct1 x (L2.wipe σ2 ct1.ix) H' fun σ3 H5 => L2.wipe σ3 ct1.ix = L2.wipe σ2 ct1.ix ∧ tQ g WF (evTs []) σ3 H5 fun b H6 =>
                if b = true then tE g WF se.v σ3 H6 fun y H7 => ∃ acc, H7 D = some (.lst acc) ∧ acc.length < sizeLine ∧ Nx1 (upd H7 D (.lst (acc ++ [y]))) else Nx1 H6)
            else Nx H3)
          (fun i H => ∃ O ρ acc dacc rest, LcJ g σ (L2.wipe σ (ct.ix ++ ct1.ix)) (ct.ix ++ ct1.ix) ρ1 H1 O1 D H O ρ acc dacc ∧ (∀ i ∈ ct.ix ++ ct1.ix, ∀ s, ρ[i]? = some s → s = .no) ∧ lcRun2 (lc2Turn ct ct1 it1 se) (xs.drop i) ρ = .ok rest ρ5 ∧ dacc ++ rest = ds) ?_ ?_ ?_ ?_
        · refine ⟨fun b => O1 b ∨ b = D, wipeR ρ1 (ct.ix ++ ct1.ix), [], [], ds, ⟨(s1.st.laidO nD).wipe _, Fr.laidO nD, fun b z => z.wipe, fun i d n e => ⟨d, by rw [wipeR_get, if_neg n]; exact e⟩, nD, .inr rfl, fun z => s1.st.obj D (s1.st.wn D z.wipe) nD, upd_same, .nil⟩, fun i hi t e => ?_, by rw [List.drop_zero]; exact er, rfl⟩
          rw [wipeR_get, if_pos hi] at e
          split at e <;> cases e
          rfl
        · rintro i H _ ⟨O, ρ, acc, dacc, rest, L, _⟩
          exact wk.good _ H O L.fr s1.st.wn
        · rintro i x H H' hi ⟨O, ρ, acc, dacc, rest, L, _, er, ed⟩ y
          obtain ⟨d, hd⟩ : ∃ d, xs[i]? = some d := ⟨xs[i], by simp [hi]⟩
          have edrop : xs.drop i = d :: xs.drop (i + 1) := by
            rw [List.drop_eq_getElem_cons hi]
            rw [List.getElem?_eq_getElem hi] at hd
            cases hd
            rfl
          rw [edrop] at er
          obtain ⟨o, ρn, rest', es, er', rfl⟩ := lcRun2_cons er
          obtain ⟨rd, gr⟩ := wk.item _ H O i x H' d L.fr s1.st.wn L.st.obj y hd
          have L' := L.grow gr
          unfold lc2Turn at es
          split at es
          · rename_i ρ2 eb
            refine gT_of L'.st rd eb fun σ2 b => ?_
            have hw : L2.wipe σ2 (ct.ix ++ ct1.ix) = L2.wipe σ (ct.ix ++ ct1.ix) := wipe_same (by rw [b.len, wipe_length]) fun j n => by rw [(b.out j fun z => n (hs0 j z)).1, wipe_get, if_neg n]
            refine ⟨hw, O, ρ2, b.st, ?_⟩
            show RW WF g σ2 ρ2 H' O (Re.ok true ρ2) _
            refine fun H3 O3 s3 => ?_
            show (if (true : Bool) = true then _ else _)
            rw [if_pos rfl]
            have L3 := (L'.bnd b).step s3
            cases ei : it1 ρ2 with
            | ok ys ρ3 =>
              rw [ei] at es
              have es : (match lcRun (lcTurn ct1 [] se) ys (wipeR ρ3 ct1.ix) with
                | .ok ds ρ4 => (Re.ok ds (wipeR ρ4 (ct.ix ++ ct1.ix)) : Re (List Wr.D))
                | _ => .st) = Re.ok o ρn := es
              cases el : lcRun (lcTurn ct1 [] se) ys (wipeR ρ3 ct1.ix) with
              | ok o5 ρ4 =>
                rw [el] at es
                cases es
                refine ⟨O3, ρ2, s3.st, ?_⟩
                rw [ei]
                rintro J1 H4 O4 s4 ⟨wk1⟩
                have L4 := (L3.step s4).wipe hs1
                have hW5 : ∀ b, (Wn σ2 ρ3 b ∨ b = D) → O4 b := fun b z => z.elim (s4.st.wn b) fun e => by rw [e]; exact (L3.step s4).own
                refine walk_it wk1.walk (R := fun j H x H' Nx1 => gT g.K ct1 x (L2.wipe σ2 ct1.ix) H' fun σ3 H5 => L2.wipe σ3 ct1.ix = L2.wipe σ2 ct1.ix ∧ tQ g WF (evTs []) σ3 H5 fun b H6 =>
                    if b = true then tE g WF se.v σ3 H6 fun y H7 => ∃ acc, H7 D = some (.lst acc) ∧ acc.length < sizeLine ∧ Nx1 (upd H7 D (.lst (acc ++ [y]))) else Nx1 H6)
                  (fun j H => ∃ O ρ acc' dacc' rest2, LcJ g σ (L2.wipe σ2 ct1.ix) (ct.ix ++ ct1.ix) ρ1 H1 O1 D H O ρ acc' dacc' ∧ Fr (fun b => Wn σ2 ρ3 b ∨ b = D) H4 O4 H O ∧ (∀ b, Wn (L2.wipe σ2 ct1.ix) ρ b → Wn σ2 ρ3 b) ∧ lcRun (lcTurn ct1 [] se) (ys.drop j) ρ = .ok rest2 ρ4 ∧ dacc' ++ rest2 = dacc ++ o) ?_ ?_ ?_ ?_
                · exact ⟨O4, wipeR ρ3 ct1.ix, acc, dacc, o, L4, .refl _ _ _, fun b z => z.wipe, by rw [List.drop_zero]; exact el, rfl⟩
                · rintro j H _ ⟨O, ρ, acc', dacc', rest2, L5, f5, _⟩
                  exact wk1.good _ H O f5 hW5
                · rintro j x2 H5 H6 hj ⟨O5, ρ6, acc', dacc', rest2, L5, f5, w5, el5, ed5⟩ y2
                  obtain ⟨d2, hd2⟩ : ∃ d, ys[j]? = some d := ⟨ys[j], by simp [hj]⟩
                  have edrop2 : ys.drop j = d2 :: ys.drop (j + 1) := by
                    rw [List.drop_eq_getElem_cons hj]
                    rw [List.getElem?_eq_getElem hj] at hd2
                    cases hd2
                    rfl
                  rw [edrop2] at el5
                  obtain ⟨o2, ρm, rest3, es2, el6, rfl⟩ := lcRun_cons el5
                  obtain ⟨rd2, gr2⟩ := wk1.item _ H5 O5 j x2 H6 d2 f5 hW5 L5.st.obj y2 hd2
                  have L6 := L5.grow gr2
                  have f6 : Fr (fun b => Wn σ2 ρ3 b ∨ b = D) H4 O4 H6 O5 := by
                    rcases gr2 with rfl | ⟨T, ob, n, rfl⟩
                    · exact f5
                    · exact f5.trans (Fr.laid (W := fun _ => False) n) fun _ z => z.elim
                  unfold lcTurn at es2
                  split at es2
                  · rename_i ρ7 eb2
                    refine gT_of L6.st rd2 eb2 fun σ3 b2 => ?_
                    have hw2 : L2.wipe σ3 ct1.ix = L2.wipe σ2 ct1.ix := wipe_same (by rw [b2.len, wipe_length]) fun k n => by rw [(b2.out k n).1, wipe_get, if_neg n]
                    refine ⟨hw2, O5, ρ7, b2.st, ?_⟩
                    show RW WF g σ3 ρ7 H6 O5 (Re.ok true ρ7) _
                    refine fun H7 O7 s7 => ?_
                    show (if (true : Bool) = true then _ else _)
                    rw [if_pos rfl]
                    have es2 : ((se.v ρ7).bd fun r ρ4 => Re.ok (some r.d) (wipeR ρ4 ct1.ix)) = Re.ok o2 ρm := es2
                    refine ⟨O7, ρ7, s7.st, ?_⟩
                    cases ev : se.v ρ7 with
                    | ok r ρ8 =>
                      rw [ev] at es2
                      cases es2
                      refine fun v H8 O8 s8 rv => ?_
                      obtain ⟨O9, s9, rv9⟩ := rv.share s7.st s8
                      have L9 := ((L6.bnd b2).step (s7.trans s9)).wipe (ws := ct1.ix) hs1
                      rw [hw2] at L9
                      have w9 : ∀ b, Wn σ3 ρ7 b → Wn σ2 ρ3 b := fun b z => w5 b (b2.wn b z)
                      have f9 : Fr (fun b => Wn σ2 ρ3 b ∨ b = D) H4 O4 H8 O9 := f6.trans (s7.trans s9).fr fun c z => .inl (w9 c z)
                      refine ⟨acc', L9.at_, ?_, O9, _, _, _, rest3, L9.push rv9, ?_, fun b z => w9 b ((s7.trans s9).sub b (by rw [← hw2] at z; exact z.wipe)), el6, by rw [← ed5]; simp⟩
                      · rw [L9.rel.len, ← sizeL_eq]
                        have e1 := congrArg List.length ed
                        have e2 := congrArg List.length ed5
                        simp only [List.length_append] at e1 e2
                        omega
                      · refine ⟨fun b ob e t n => ?_, fun P n t => tabs_upd L9.at_ (fun _ _ z => by cases z) (fun z => n (.inr z)) (f9.tb P n t), fun b e => f9.there b ?_, f9.o1, f9.o2⟩
                        · rw [upd_ne fun hb => n (.inr hb)]
                          exact f9.kp b ob e t n
                        · by_cases hb : b = D
                          · subst hb; rw [upd_same] at e; cases e
                          · rw [upd_ne hb] at e; exact e
                    | ex x' ρ8 => rw [ev] at es2; cases es2
                    | st => rw [ev] at es2; cases es2
                  · cases es2
                · rintro H5 ⟨O5, ρ6, acc', dacc', rest2, L5, _, _, el5, ed5⟩
                  rw [List.drop_length] at el5
                  cases el5
                  rw [List.append_nil] at ed5
                  subst ed5
                  have L7 := L5.wipe (ws := ct.ix ++ ct1.ix) fun _ h => h
                  rw [wipe_wipe hs1, hw] at L7
                  refine ⟨O5, _, _, _, rest', L7, fun i hi t e => ?_, er', by rw [List.append_assoc]; exact ed⟩
                  rw [wipeR_get, if_pos hi] at e
                  split at e <;> cases e
                  rfl
              | ex x' ρ4 => rw [el] at es; cases es
              | st => rw [el] at es; cases es
            | ex x' ρ3 => rw [ei] at es; cases es
            | st => rw [ei] at es; cases es
          · cases es
        · rintro H' ⟨O', ρ', acc, dacc, rest, L, _, er', ed⟩
          rw [List.drop_length] at er'
          cases er'
          rw [List.append_nil] at ed
          subst ed
          have hlen : ρ5.length = ρ1.length := by rw [← L.st.len, wipe_length, s1.st.len]
          have bk := fun i => (backR_get (i := i) hlen (vs := ct.ix ++ ct1.ix)).1
          have own_out : ∀ {i : Nat} {s : Sl}, (backR ρ1 ρ5 (ct.ix ++ ct1.ix))[i]? = some s → s.own = true → i ∉ ct.ix ++ ct1.ix ∧ ρ5[i]? = some s := fun {i s} e o => by
            rw [bk] at e
            by_cases hi : i ∈ ct.ix ++ ct1.ix
            · rw [if_pos hi] at e
              obtain ⟨s', e', o'⟩ := noOwn_at hno hi
              rw [e] at e'
              cases e'
              rw [o] at o'
              cases o'
            · rw [if_neg hi] at e
              exact ⟨hi, e⟩
          have sub : ∀ b, Wn σ (backR ρ1 ρ5 (ct.ix ++ ct1.ix)) b → Wn (L2.wipe σ (ct.ix ++ ct1.ix)) ρ5 b := fun b ⟨i, s, e1, o, e2⟩ => by
            obtain ⟨n, e⟩ := own_out e1 o
            exact ⟨i, s, e, o, by rw [wipe_get, if_neg n]; exact e2⟩
          have stf : StR g H' O' σ (backR ρ1 ρ5 (ct.ix ++ ct1.ix)) := by
            refine ⟨by rw [(backR_get (i := 0) hlen (vs := ct.ix ++ ct1.ix)).2, ← L.st.len, wipe_length], fun i v s e1 e2 => ?_, fun i j s t a e1 o1 e2 o2 f1 f2 => ?_, L.st.obj, L.st.tabs⟩
            · rw [bk] at e2
              by_cases hi : i ∈ ct.ix ++ ct1.ix
              · rw [if_pos hi] at e2
                obtain ⟨s', e', o'⟩ := noOwn_at hno hi
                rw [e2] at e'
                cases e'
                have z := s1.st.at_ i v s e1 e2
                cases z with
                | no => exact .no
                | sh r => exact .sh (r.fr L.fr s1.st.wn)
                | ow _ _ => cases o'
                | io _ _ => cases o'
              · rw [if_neg hi] at e2
                exact L.st.at_ i v s (by rw [wipe_get, if_neg hi]; exact e1) e2
            · obtain ⟨n1, g1⟩ := own_out e1 o1
              obtain ⟨n2, g2⟩ := own_out e2 o2
              exact L.st.one i j s t a g1 o1 g2 o2 (by rw [wipe_get, if_neg n1]; exact f1) (by rw [wipe_get, if_neg n2]; exact f2)
          refine q1 _ H' O' (s1.trans ⟨L.fr, stf, fun b z => L.wn b (sub b z), fun i d e => ?_⟩) ⟨D, rfl, s1.fr.there D nD, L.own, fun z => L.nwn (sub D z), .lst L.at_ L.rel⟩
          have n : i ∉ ct.ix ++ ct1.ix := fun hi => by
            obtain ⟨s', e', o'⟩ := noOwn_at hno hi
            rw [e] at e'
            cases e'
            cases o'
          obtain ⟨d', e'⟩ := L.io i d n e
          exact ⟨d', by rw [bk, if_neg n]; exact e'⟩
      · dsimp only at q1
        rw [if_neg hz] at q1
        exact q1.elim
    | ex x ρ5 => rw [er] at q1; exact q1.elim
    | st => rw [er] at q1; exact q1.elim
  · rw [if_neg hno] at q1
    exact q1.elim
theorem de_lc2 {elt tg iter tg1 iter1 : Expr} {scope : Scope} {own : List (Str × Nat)} {it it1 : Rho → Re (List Wr.D)} {se : Sm} {ct ct1 : CT} (hi : PI X tg iter (tI g W it)) (ok : BlkOk X.N X.env.scope scope own) (hix : own.map (·.2) = ct.ix ++ ct1.ix)
    (hg : ∀ (s : Shared) (H : Hp) (C : Addr) (cl : List (Str × Addr)) (fp : List Addr), PG (X.blk s H scope (compEnvC scope cl C X.env) fp) tg (gT X.K ct))
    (hi1 : ∀ (s : Shared) (H : Hp) (C : Addr) (cl : List (Str × Addr)) (fp : List Addr), PI (X.blk s H scope (compEnvC scope cl C X.env) fp) tg1 iter1 (tI g WF it1))
    (hg1 : ∀ (s : Shared) (H : Hp) (C : Addr) (cl : List (Str × Addr)) (fp : List Addr), PG (X.blk s H scope (compEnvC scope cl C X.env) fp) tg1 (gT X.K ct1))
    (he : ∀ (s : Shared) (H : Hp) (C : Addr) (cl : List (Str × Addr)) (fp : List Addr), PE (X.blk s H scope (compEnvC scope cl C X.env) fp) elt (tE g WF se.v)) (hs : ∀ x, foldedSetIterable iter X.env x = pure x) (hs1 : ∀ env x, foldedSetIterable iter1 env x = pure x) :
    PE X (.ListComp elt [⟨tg, iter, [], 0⟩, ⟨tg1, iter1, [], 0⟩] scope pos) (tE g W (lc2V ct it ct1 it1 se)) := by
  have h := pe_lc2 (pos := pos) (vs1 := ct1.ix) (tt := tQ g WF (evTs [])) (tt1 := tQ g WF (evTs [])) C.calm C.nd hi ok (by rw [hix]; exact fun i hi => List.mem_append_right _ hi) hg (fun _ _ _ _ _ => ts_nil) hi1 hg1 (fun _ _ _ _ _ => ts_nil) he hs hs1
  rw [hix] at h
  exact peImp h fun σ H Q q => lc2_red (elt := elt) (tg := tg) (iter := iter) C q
end
end Wr
namespace Wr
open PySem PySem.Spec L2
open PyProof.Rows hiding St
/-- a def's promise where nothing is being shown by repr around it -/
structure FnG (g : Gm) (P : Program) (w : World) (base : Heap) (k : Nat) (f : Addr) (fd : FuncData) (ps : List Str) (sp : Sp) : Prop where
  len : ∀ vs H Q E, sp vs H Q E → vs.length = ps.length
  run : ∀ (A : Around) (outer : List Env) (s : Shared) (H : Hp) (args : Args) (us : List Value) (vs : List V) (Q : VK) (E : XK), Room k A → A.guards = some [] →
    Env0 P w g.K g.mg base A outer s H → BindsTo s fd args (ps.zip us) → Vals vs us → sp vs H Q E → codeAny (model P w) A (.call (.ref f) args) (L2.CR (L2.CX P w) outer P w H s Q E) s
/-- behind a call: what was lent has come back -/
structure CBk (g : Gm) (vs : List V) (args back : Rho) (H : Hp) (O : AP1) (H' : Hp) (O' : AP1) : Prop where
  fr : Fr (Wn (vs.map some) args) H O H' O'
  obj : ∀ b, O' b → H' b ≠ none
  io : ∀ (k : Nat) (d : D), args[k]? = some (Sl.io d) → ∃ (a : Addr) (d' : D), vs[k]? = some (.ref a) ∧ back[k]? = some (Sl.io d') ∧ O' a ∧ Ob g H' O' a d'
def RsF (g : Gm) (H : Hp) (H' : Hp) (O' : AP1) (v : V) : Rs → Prop
  | .sh d => RD g H' O' v d
  | .fr d => ∃ a, v = .ref a ∧ H a = none ∧ O' a ∧ Ob g H' O' a d
def CRo (g : Gm) (vs : List V) (args : Rho) (H : Hp) (O : AP1) (Q : VK) (E : XK) : CR → Prop
  | .ok r back => ∀ v H' O', CBk g vs args back H O H' O' → RsF g H H' O' v r → Q v H'
  | .ex x back => ∀ c dx H' O', CBk g vs args back H O H' O' → XnR g H' O' x c dx → E c dx H'
  | .st => False
def lentS : Sl → Bool
  | .sh _ => true
  | .io _ => true
  | _ => false
/-- the promise of a def that computes cf -/
def spF (g : Gm) (cf : List Sl → CR) : Sp := fun vs H Q E => ∃ O args, StR g H O (vs.map some) args ∧ args.all lentS = true ∧ CRo g vs args H O Q E (cf args)
def AgR (g : Gm) (H : Hp) (O : AP1) (σ : St) (v : V) : Ag → Prop
  | .inl d => RD g H O v d
  | .inr j => σ[j]? = some (some v)
def tAg (g : Gm) (W : WX) (f : Rho → Re (List Ag)) : TA := fun σ H Q => ∃ O ρ, StR g H O σ ρ ∧ RW W g σ ρ H O (f ρ) fun as ρ' => ∀ vs H' O', Stp g σ ρ H O ρ' H' O' → Paired (AgR g H' O' σ) vs as → Q vs H'
inductive ArR (g : Gm) (W : WX) (X : Cx) : Expr → (Sm ⊕ Nat) → Prop where
  | ex {e : Expr} {s : Sm} : AS g W X e s → ArR g W X e (.inl s)
  | io {x : Str} {p : Pos} {j : Nat} : PE X (.Name x p) (tVar j) → ArR g W X (.Name x p) (.inr j)
section
variable {g : Gm} {W : WX} {X : Cx} {pos : Pos}
theorem ArR.ns {e : Expr} {s : Sm ⊕ Nat} (h : ArR g W X e s) : NotStar e := by
  cases h with
  | ex h => exact h.ns
  | io h => exact fun _ _ => rfl
theorem run_ag {β : Type} {K : β → Rho → Prop} {k : List Ag → Rho → Re β} {f : Rho → Re (List Ag)} {σ : St} {ρ : Rho} {H : Hp} {O : AP1} {Q : List V → Hp → Prop} (S : StR g H O σ ρ) (h : RW W g σ ρ H O ((f ρ).bd k) K)
    (next : ∀ ds ρ1 vs H1 O1, Stp g σ ρ H O ρ1 H1 O1 → Paired (AgR g H1 O1 σ) vs ds → RW W g σ ρ1 H1 O1 (k ds ρ1) K → Q vs H1) : tAg g W f σ H Q :=
  ⟨O, ρ, S, (RW.bd h).imp fun r ρ1 h1 v H1 O1 s1 r1 => next r ρ1 v H1 O1 s1 r1 (h1.rebase s1)⟩
theorem AgR.stp {H H1 : Hp} {O O1 : AP1} {σ : St} {ρ ρ1 : Rho} {v : V} {a : Ag} (h : AgR g H O σ v a) (S : StR g H O σ ρ) (s : Stp g σ ρ H O ρ1 H1 O1) : AgR g H1 O1 σ v a := by
  cases a with
  | inl d => exact s.rd S h
  | inr j => exact h
theorem pas_ag : ∀ {es : List Expr} {ss : List (Sm ⊕ Nat)}, Paired (ArR g W X) es ss → PA X es (tAg g W (evA ss))
  | [], _, .nil => paImp pa_nil fun σ H Q ⟨O, ρ, S, q⟩ => q [] H O (.refl S) .nil
  | e :: es, _, .cons h hs => by
    have ih := pas_ag hs
    cases h with
    | ex h =>
      refine paImp (pa_cons h.es.v ih (h.ns es _)) fun σ H Q ⟨O, ρ, S, q⟩ => ?_
      refine run_s S q fun r ρ1 v H1 O1 s1 rv q1 => run_ag s1.st q1 fun ds ρ2 vs H2 O2 s2 rvs q2 => ?_
      exact q2 (v :: vs) H2 O2 (s1.trans s2) (.cons (s2.rd s1.st rv) rvs)
    | io h =>
      refine paImp (pa_cons h ih rfl) fun σ H Q ⟨O, ρ, S, q⟩ => ?_
      simp only [evA] at q
      split at q
      · rename_i s es
        split at q
        · rename_i o
          obtain ⟨v, ev, r⟩ := S.get es
          cases r with
          | no => cases o
          | sh _ => cases o
          | ow oa ob => exact ⟨_, ev, run_ag S q fun ds ρ2 vs H2 O2 s2 rvs q2 => q2 (_ :: vs) H2 O2 s2 (.cons ev rvs)⟩
          | io oa ob => exact ⟨_, ev, run_ag S q fun ds ρ2 vs H2 O2 s2 rvs q2 => q2 (_ :: vs) H2 O2 s2 (.cons ev rvs)⟩
        · exact q.elim
      · exact q.elim
theorem no_starA : ∀ {es : List Expr} {ss : List (Sm ⊕ Nat)}, Paired (ArR g W X) es ss → ∀ (pos : Pos) (env : Env), (backTo pos (starEach es env)).any (·.1) = false
  | [], _, .nil, _, _ => rfl
  | e :: es, _, .cons h hs, pos, env => by
    have z := no_starA hs pos env
    unfold backTo at z ⊢
    rw [h.ns es env, List.map_cons, List.any_cons, z]
    rfl
theorem lend_get {ρ : Rho} : ∀ {as : List Ag} {sls : Rho}, lend ρ as = some sls → sls.length = as.length ∧ ∀ (k : Nat) (a : Ag), as[k]? = some a → ∃ s, sls[k]? = some s ∧ (match a with
    | .inl d => s = .sh d
    | .inr j => ∃ d, s = .io d ∧ (ρ[j]? = some (.ow d) ∨ ρ[j]? = some (.io d)))
  | [], _, e => by cases e; exact ⟨rfl, fun k a h => by simp at h⟩
  | .inl d :: r, _, e => by
    obtain ⟨q, e1, rfl⟩ := Option.map_eq_some_iff.mp (show (lend ρ r).map (.sh d :: ·) = some _ from e)
    obtain ⟨h1, h2⟩ := lend_get e1
    refine ⟨by rw [List.length_cons, List.length_cons, h1], fun k a h => ?_⟩
    cases k with
    | zero => cases h; exact ⟨_, rfl, rfl⟩
    | succ k => exact h2 k a h
  | .inr j :: r, _, e => by
    unfold lend at e
    split at e
    · rename_i d q e1 e2
      cases e
      obtain ⟨h1, h2⟩ := lend_get e2
      refine ⟨by rw [List.length_cons, List.length_cons, h1], fun k a h => ?_⟩
      cases k with
      | zero => cases h; exact ⟨_, rfl, d, rfl, .inl e1⟩
      | succ k => exact h2 k a h
    · rename_i d q e1 e2
      cases e
      obtain ⟨h1, h2⟩ := lend_get e2
      refine ⟨by rw [List.length_cons, List.length_cons, h1], fun k a h => ?_⟩
      cases k with
      | zero => cases h; exact ⟨_, rfl, d, rfl, .inr e1⟩
      | succ k => exact h2 k a h
    · cases e
theorem lent_mem : ∀ {as : List Ag} {k j : Nat}, as[k]? = some (.inr j) → j ∈ lent as
  | [], _, _, h => by simp at h
  | .inl _ :: r, 0, _, h => by cases h
  | .inl _ :: r, k + 1, j, h => lent_mem (as := r) (k := k) h
  | .inr i :: r, 0, j, h => by cases h; exact List.mem_cons_self
  | .inr i :: r, k + 1, j, h => List.mem_cons_of_mem _ (lent_mem (as := r) (k := k) h)
theorem lent_one : ∀ {as : List Ag} {k l j : Nat}, (lent as).Nodup → as[k]? = some (.inr j) → as[l]? = some (.inr j) → k = l
  | [], _, _, _, _, h, _ => by simp at h
  | .inl _ :: r, 0, _, _, _, h, _ => by cases h
  | .inl _ :: r, _ + 1, 0, _, _, _, h => by cases h
  | .inl _ :: r, k + 1, l + 1, j, n, h, h' => congrArg (· + 1) (lent_one (as := r) n h h')
  | .inr i :: r, 0, 0, j, n, h, h' => rfl
  | .inr i :: r, 0, l + 1, j, n, h, h' => by
    cases h
    exact absurd (lent_mem (as := r) (k := l) h') (List.nodup_cons.mp n).1
  | .inr i :: r, k + 1, 0, j, n, h, h' => by
    cases h'
    exact absurd (lent_mem (as := r) (k := k) h) (List.nodup_cons.mp n).1
  | .inr i :: r, k + 1, l + 1, j, n, h, h' => congrArg (· + 1) (lent_one (as := r) (List.nodup_cons.mp n).2 h h')
theorem lent_at : ∀ {as : List Ag} {j : Nat}, j ∈ lent as → ∃ k : Nat, as[k]? = some (.inr j)
  | [], _, h => by cases h
  | .inl _ :: r, j, h => by
    obtain ⟨k, e⟩ := lent_at (as := r) h
    exact ⟨k + 1, e⟩
  | .inr i :: r, j, h => by
    rcases List.mem_cons.mp h with rfl | h
    · exact ⟨0, rfl⟩
    · obtain ⟨k, e⟩ := lent_at (as := r) h
      exact ⟨k + 1, e⟩
structure HomeR (as : List Ag) (back ρ ρ' : Rho) : Prop where
  len : ρ'.length = ρ.length
  out : ∀ i, i ∉ lent as → ρ'[i]? = ρ[i]?
  at_ : ∀ (k j : Nat), as[k]? = some (.inr j) → ∃ d d' : D, back[k]? = some (Sl.io d') ∧ ((ρ[j]? = some (Sl.ow d) ∧ ρ'[j]? = some (Sl.ow d')) ∨ (ρ[j]? = some (Sl.io d) ∧ ρ'[j]? = some (Sl.io d')))
theorem home_of : ∀ {as : List Ag} {back ρ ρ' : Rho}, (lent as).Nodup → home as back ρ = some ρ' → HomeR as back ρ ρ'
  | [], _, _, _, _, e => by cases e; exact ⟨rfl, fun _ _ => rfl, fun k j h => by simp at h⟩
  | .inl _ :: r, [], _, _, _, e => by cases e
  | .inl _ :: r, _ :: q, ρ, ρ', n, e => by
    have h := home_of (as := r) n (show home r q ρ = some ρ' from e)
    refine ⟨h.len, h.out, fun k j hk => ?_⟩
    cases k with
    | zero => cases hk
    | succ k => exact h.at_ k j hk
  | .inr j :: r, [], _, _, _, e => by cases e
  | .inr j :: r, .no :: q, _, _, _, e => by cases e
  | .inr j :: r, .sh _ :: q, _, _, _, e => by cases e
  | .inr j :: r, .ow _ :: q, _, _, _, e => by cases e
  | .inr j :: r, .io d' :: q, ρ, ρ', n, e => by
    obtain ⟨nj, n'⟩ := List.nodup_cons.mp n
    have e : (match ρ[j]? with
      | some (.ow _) => home r q (ρ.set j (.ow d'))
      | some (.io _) => home r q (ρ.set j (.io d'))
      | _ => none) = some ρ' := e
    have go : ∀ (s s' : Sl), ρ[j]? = some s → HomeR r q (ρ.set j s') ρ' → ((∃ d, s = .ow d) ∧ s' = .ow d' ∨ (∃ d, s = .io d) ∧ s' = .io d') → HomeR (.inr j :: r) (.io d' :: q) ρ ρ' := fun s s' hs h c => by
      have hl : j < ρ.length := (List.getElem?_eq_some_iff.mp hs).1
      refine ⟨by rw [h.len, List.length_set], fun i hi => ?_, fun k i hk => ?_⟩
      · have h1 : i ∉ lent r := fun z => hi (List.mem_cons_of_mem _ z)
        have h2 : j ≠ i := fun z => hi (by rw [z]; exact List.mem_cons_self)
        rw [h.out i h1, List.getElem?_set_ne h2]
      · cases k with
        | zero =>
          cases hk
          have ej : ρ'[j]? = some s' := by rw [h.out j nj, List.getElem?_set_self hl]
          rcases c with ⟨⟨d, rfl⟩, rfl⟩ | ⟨⟨d, rfl⟩, rfl⟩
          · exact ⟨d, d', rfl, .inl ⟨hs, ej⟩⟩
          · exact ⟨d, d', rfl, .inr ⟨hs, ej⟩⟩
        | succ k =>
          have hk' : r[k]? = some (.inr i) := hk
          have hne : j ≠ i := fun z => nj (by rw [z]; exact lent_mem hk')
          obtain ⟨d, d2, e1, e2⟩ := h.at_ k i hk'
          rw [List.getElem?_set_ne hne] at e2
          exact ⟨d, d2, e1, e2⟩
    split at e
    · rename_i d hs
      exact go _ _ hs (home_of n' e) (.inl ⟨⟨d, rfl⟩, rfl⟩)
    · rename_i d hs
      exact go _ _ hs (home_of n' e) (.inr ⟨⟨d, rfl⟩, rfl⟩)
    · cases e
section
variable {σ : St} {ρ ρ' : Rho} {H H' : Hp} {O O' : AP1} {as : List Ag} {vs : List V} {sls back : Rho}
theorem pairedGet {α β : Type} {F : α → β → Prop} : ∀ {xs : List α} {ys : List β} {i : Nat} {x : α}, Paired F xs ys → xs[i]? = some x → ∃ y, ys[i]? = some y ∧ F x y
  | _, _, _, _, .nil, e => by simp at e
  | _, _, 0, _, .cons h _, e => by simp at e; subst e; exact ⟨_, by simp, h⟩
  | _, _, i + 1, x, .cons _ hs, e => by
    obtain ⟨y, e1, h⟩ := pairedGet (i := i) (x := x) hs (by simpa using e)
    exact ⟨y, by simpa using e1, h⟩
theorem pairedGetR {α β : Type} {F : α → β → Prop} : ∀ {xs : List α} {ys : List β} {i : Nat} {y : β}, Paired F xs ys → ys[i]? = some y → ∃ x, xs[i]? = some x ∧ F x y
  | _, _, _, _, .nil, e => by simp at e
  | _, _, 0, _, .cons h _, e => by simp at e; subst e; exact ⟨_, by simp, h⟩
  | _, _, i + 1, x, .cons _ hs, e => by
    obtain ⟨y, e1, h⟩ := pairedGetR (i := i) (y := x) hs (by simpa using e)
    exact ⟨y, by simpa using e1, h⟩
/-- an argument's slot of the callee, by the caller's -/
theorem lend_at (S : StR g H O σ ρ) (hv : Paired (AgR g H O σ) vs as) (hl : lend ρ as = some sls) {k : Nat} {v : V} {s : Sl} (ev : vs[k]? = some v) (es : sls[k]? = some s) :
    (∃ d, s = .sh d ∧ RD g H O v d) ∨ ∃ (a : Addr) (d : D) (j : Nat), s = .io d ∧ v = .ref a ∧ as[k]? = some (.inr j) ∧ O a ∧ Ob g H O a d ∧ σ[j]? = some (some (.ref a)) ∧ (ρ[j]? = some (.ow d) ∨ ρ[j]? = some (.io d)) := by
  obtain ⟨a, ea, r⟩ := pairedGet hv ev
  obtain ⟨s', es', m⟩ := (lend_get hl).2 k a ea
  rw [es] at es'
  cases es'
  cases a with
  | inl d =>
    have m' : s = .sh d := m
    exact .inl ⟨d, m', r⟩
  | inr j =>
    obtain ⟨d, rfl, hd⟩ := m
    have r' : σ[j]? = some (some v) := r
    rcases hd with hd | hd
    · have z := S.at_ j _ _ r' hd
      cases z with
      | ow oa ob => exact .inr ⟨_, d, j, rfl, rfl, ea, oa, ob, r', .inl hd⟩
    · have z := S.at_ j _ _ r' hd
      cases z with
      | io oa ob => exact .inr ⟨_, d, j, rfl, rfl, ea, oa, ob, r', .inr hd⟩
theorem lend_st (S : StR g H O σ ρ) (hv : Paired (AgR g H O σ) vs as) (hl : lend ρ as = some sls) (nd : (lent as).Nodup) : StR g H O (vs.map some) sls := by
  have hlen : vs.length = sls.length := by rw [(lend_get hl).1]; exact Paired.length hv
  have at1 : ∀ {k : Nat} {w : Option V}, (vs.map some)[k]? = some w → ∃ v, w = some v ∧ vs[k]? = some v := fun {k w} e => by
    rw [List.getElem?_map] at e
    cases q : vs[k]? with
    | none => rw [q] at e; cases e
    | some v => rw [q] at e; cases e; exact ⟨v, rfl, rfl⟩
  refine ⟨by rw [List.length_map]; exact hlen, fun k w s e1 e2 => ?_, fun k l s t a e1 o1 e2 o2 f1 f2 => ?_, S.obj, S.tabs⟩
  · obtain ⟨v, rfl, ev⟩ := at1 e1
    rcases lend_at S hv hl ev e2 with ⟨d, rfl, r⟩ | ⟨a, d, j, rfl, rfl, _, oa, ob, _⟩
    · exact .sh r
    · exact .io oa ob
  · obtain ⟨v, ev, e3⟩ := at1 f1
    obtain ⟨v', ev', e4⟩ := at1 f2
    cases ev
    cases ev'
    rcases lend_at S hv hl e3 e1 with ⟨d, rfl, r⟩ | ⟨b, d, j, rfl, eb, ej, _, _, sj, rj⟩
    · cases o1
    · rcases lend_at S hv hl e4 e2 with ⟨d, rfl, r⟩ | ⟨b', d', j', rfl, eb', ej', _, _, sj', rj'⟩
      · cases o2
      · cases eb
        cases eb'
        have hj : j = j' := by
          rcases rj with q1 | q1 <;> rcases rj' with q2 | q2 <;> exact S.one j j' _ _ a q1 rfl q2 rfl sj sj'
        subst hj
        exact lent_one nd ej ej'
theorem lend_all (hl : lend ρ as = some sls) : sls.all lentS = true := by
  refine List.all_eq_true.mpr fun s hs => ?_
  obtain ⟨k, ek⟩ := List.mem_iff_getElem?.mp hs
  have hk : k < as.length := by rw [← (lend_get hl).1]; exact (List.getElem?_eq_some_iff.mp ek).1
  obtain ⟨s', e', m⟩ := (lend_get hl).2 k as[k] (by simp [hk])
  rw [ek] at e'
  cases e'
  revert m
  cases as[k] with
  | inl d => rintro rfl; rfl
  | inr j => rintro ⟨d, rfl, _⟩; rfl
/-- the lent objects are of the caller's own -/
theorem lend_wn (S : StR g H O σ ρ) (hv : Paired (AgR g H O σ) vs as) (hl : lend ρ as = some sls) {b : Addr} (h : Wn (vs.map some) sls b) : ∃ (k j : Nat), as[k]? = some (.inr j) ∧ σ[j]? = some (some (.ref b)) ∧ ∃ s, ρ[j]? = some s ∧ s.own = true := by
  obtain ⟨k, s, e1, o, e2⟩ := h
  rw [List.getElem?_map] at e2
  cases q : vs[k]? with
  | none => rw [q] at e2; cases e2
  | some v =>
    rw [q] at e2
    cases e2
    rcases lend_at S hv hl q e1 with ⟨d, rfl, r⟩ | ⟨a, d, j, rfl, eb, ej, _, _, sj, rj⟩
    · cases o
    · cases eb
      rcases rj with z | z
      · exact ⟨k, j, ej, sj, _, z, rfl⟩
      · exact ⟨k, j, ej, sj, _, z, rfl⟩
theorem call_stp (S : StR g H O σ ρ) (hv : Paired (AgR g H O σ) vs as) (hl : lend ρ as = some sls) (nd : (lent as).Nodup) (hh : HomeR as back ρ ρ') (b : CBk g vs sls back H O H' O') : Stp g σ ρ H O ρ' H' O' := by
  have wsub : ∀ c, Wn (vs.map some) sls c → Wn σ ρ c := fun c z => by
    obtain ⟨k, j, _, sj, s, es, o⟩ := lend_wn S hv hl z
    exact ⟨j, s, es, o, sj⟩
  have wO : ∀ c, Wn (vs.map some) sls c → O c := fun c z => S.wn c (wsub c z)
  have lentAt : ∀ {i : Nat}, i ∈ lent as → ∃ (a : Addr) (d d' : D), σ[i]? = some (some (.ref a)) ∧ O' a ∧ Ob g H' O' a d' ∧ ((ρ[i]? = some (.ow d) ∧ ρ'[i]? = some (.ow d')) ∨ (ρ[i]? = some (.io d) ∧ ρ'[i]? = some (.io d'))) := fun {i} hi => by
    obtain ⟨k, ek⟩ := lent_at hi
    obtain ⟨d, d', eb, c⟩ := hh.at_ k i ek
    obtain ⟨v, ev, r⟩ := pairedGetR hv ek
    obtain ⟨s, es, m⟩ := (lend_get hl).2 k _ ek
    obtain ⟨d0, rfl, _⟩ := m
    obtain ⟨a, d2, ev', eb', oa, ob⟩ := b.io k d0 es
    rw [ev] at ev'
    cases ev'
    rw [eb] at eb'
    cases eb'
    exact ⟨a, d, d', r, oa, ob, c⟩
  refine ⟨b.fr.mono wsub, ⟨by rw [S.len, hh.len], fun i v s e1 e2 => ?_, fun i j s t a e1 o1 e2 o2 f1 f2 => ?_, b.obj, S.tabs.fr b.fr wO⟩, fun c ⟨i, s, e1, o, e2⟩ => ?_, fun i d e => ?_⟩
  · by_cases hi : i ∈ lent as
    · obtain ⟨a, d, d', sa, oa, ob, c⟩ := lentAt hi
      rw [sa] at e1
      cases e1
      rcases c with ⟨_, c⟩ | ⟨_, c⟩
      · rw [e2] at c; cases c; exact .ow oa ob
      · rw [e2] at c; cases c; exact .io oa ob
    · rw [hh.out i hi] at e2
      have z := S.at_ i v s e1 e2
      have nw : ∀ {a : Addr}, v = some (.ref a) → s.own = true → ¬ Wn (vs.map some) sls a := fun {a} ea o w => by
        obtain ⟨k, j, ej, sj, t, et, ot⟩ := lend_wn S hv hl w
        have := S.one i j s t a e2 o et ot (by rw [e1, ea]) sj
        subst this
        exact hi (lent_mem ej)
      cases z with
      | no => exact .no
      | sh r => exact .sh (r.fr b.fr wO)
      | ow oa ob => exact .ow (b.fr.o1 _ oa (nw rfl rfl)) (ob.fr b.fr wO (nw rfl rfl))
      | io oa ob => exact .io (b.fr.o1 _ oa (nw rfl rfl)) (ob.fr b.fr wO (nw rfl rfl))
  · have back1 : ∀ {i : Nat} {s : Sl}, ρ'[i]? = some s → s.own = true → ∃ s', ρ[i]? = some s' ∧ s'.own = true := fun {i s} e o => by
      by_cases hi : i ∈ lent as
      · obtain ⟨_, d, d', _, _, _, c⟩ := lentAt hi
        rcases c with ⟨c, _⟩ | ⟨c, _⟩
        · exact ⟨_, c, rfl⟩
        · exact ⟨_, c, rfl⟩
      · rw [hh.out i hi] at e; exact ⟨s, e, o⟩
    obtain ⟨s', g1, p1⟩ := back1 e1 o1
    obtain ⟨t', g2, p2⟩ := back1 e2 o2
    exact S.one i j s' t' a g1 p1 g2 p2 f1 f2
  · by_cases hi : i ∈ lent as
    · obtain ⟨_, d, d', _, _, _, c⟩ := lentAt hi
      rcases c with ⟨c, _⟩ | ⟨c, _⟩
      · exact ⟨i, _, c, rfl, e2⟩
      · exact ⟨i, _, c, rfl, e2⟩
    · rw [hh.out i hi] at e1; exact ⟨i, s, e1, o, e2⟩
  · by_cases hi : i ∈ lent as
    · obtain ⟨_, d0, d', _, _, _, c⟩ := lentAt hi
      rcases c with ⟨c, _⟩ | ⟨_, c⟩
      · rw [e] at c; cases c
      · exact ⟨d', c⟩
    · exact ⟨d, by rw [hh.out i hi]; exact e⟩
end
end
section
variable {g : Gm} {W : WX} {X : Cx}
/-- keywords by name: their names, their values -/
theorem kw_plain {kws : List Keyword} {ks : List Str} {pos : Pos} {env : Env} (h : kws.map (·.arg) = ks.map some) : (backToKw pos (keywordEach kws env)).all (fun p => p.1.isSome) = true ∧ (backToKw pos (keywordEach kws env)).filterMap (fun p => p.1) = ks ∧ (backToKw pos (keywordEach kws env)).any (fun p => p.1.isNone) = false := by
  induction kws generalizing ks with
  | nil =>
    cases ks with
    | nil => exact ⟨rfl, rfl, rfl⟩
    | cons _ _ => cases h
  | cons w ws ih =>
    cases ks with
    | nil => cases h
    | cons k ks =>
      obtain ⟨nm, v, kp⟩ := w
      rw [List.map_cons, List.map_cons] at h
      obtain ⟨e1, e2⟩ := List.cons.inj h
      obtain ⟨i1, i2, i3⟩ := ih e2
      have e1' : nm = some k := e1
      subst e1'
      unfold backToKw at i1 i2 i3 ⊢
      refine ⟨?_, ?_, ?_⟩
      · simp only [keywordEach, List.map_cons, List.all_cons, Option.isSome_some, Bool.true_and]
        exact i1
      · refine (List.filterMap_cons_some (f := fun p : Option Str × Sem Value => p.1) (b := k) rfl).trans ?_
        exact congrArg (List.cons k) i2
      · simp only [keywordEach, List.map_cons, List.any_cons, Option.isNone_some, Bool.false_or]
        exact i3
theorem pk_of {ss : List Sm} : ∀ {kws : List Keyword}, Paired (AS g W X) (kws.map (·.value)) ss → PK X kws (tAs g W (evEs ss))
  | [], h => by
    cases h
    exact ⟨fun pos pins s σ H Q I ⟨O, ρ, S, q⟩ => pk_nil.run pos pins s σ H Q I (q [] H O (.refl S) .nil)⟩
  | ⟨nm, v, kp⟩ :: kws, h => by
    cases h with
    | cons h hs =>
      have ih := pk_of hs
      refine ⟨fun pos pins s σ H Q I ⟨O, ρ, S, q⟩ => (pk_cons (nm := nm) (kpos := kp) h.es.v ih).run pos pins s σ H Q I ?_⟩
      refine run_s S q fun r ρ1 v H1 O1 s1 rv q1 => run_as s1.st q1 fun ds ρ2 vs H2 O2 s2 rvs q2 => ?_
      exact q2 (v :: vs) H2 O2 (s1.trans s2) (.cons (s2.rd s1.st rv) rvs)
theorem permL_vals {us : List Value} {vs : List V} (h : Vals vs us) : ∀ pm : List Nat, Vals (permL pm vs) (permL pm us)
  | [] => .nil
  | i :: pm => by
    have ih := permL_vals h pm
    unfold permL at ih ⊢
    have key : (vs[i]? = none ∧ us[i]? = none) ∨ ∃ v u, vs[i]? = some v ∧ us[i]? = some u ∧ RelV v u := by
      clear ih
      induction h generalizing i with
      | nil => exact .inl ⟨rfl, rfl⟩
      | cons r rs ih =>
        cases i with
        | zero => exact .inr ⟨_, _, rfl, rfl, r⟩
        | succ i => exact ih i
    rcases key with ⟨e1, e2⟩ | ⟨v, u, e1, e2, r⟩
    · rw [List.filterMap_cons_none e1, List.filterMap_cons_none e2]
      exact ih
    · rw [List.filterMap_cons_some e1, List.filterMap_cons_some e2]
      exact .cons r ih
theorem permL_ag {H : Hp} {O : AP1} {σ : St} {vs : List V} {as : List Ag} (h : Paired (AgR g H O σ) vs as) : ∀ pm : List Nat, Paired (AgR g H O σ) (permL pm vs) (permL pm as)
  | [] => .nil
  | i :: pm => by
    have ih := permL_ag h pm
    unfold permL at ih ⊢
    have key : (vs[i]? = none ∧ as[i]? = none) ∨ ∃ v u, vs[i]? = some v ∧ as[i]? = some u ∧ AgR g H O σ v u := by
      clear ih
      induction h generalizing i with
      | nil => exact .inl ⟨rfl, rfl⟩
      | cons r rs ih =>
        cases i with
        | zero => exact .inr ⟨_, _, rfl, rfl, r⟩
        | succ i => exact ih i
    rcases key with ⟨e1, e2⟩ | ⟨v, u, e1, e2, r⟩
    · rw [List.filterMap_cons_none e1, List.filterMap_cons_none e2]
      exact ih
    · rw [List.filterMap_cons_some e1, List.filterMap_cons_some e2]
      exact .cons r ih
theorem ag_stp {H H1 : Hp} {O O1 : AP1} {σ : St} {ρ ρ1 : Rho} (S : StR g H O σ ρ) (s : Stp g σ ρ H O ρ1 H1 O1) : ∀ {vs : List V} {as : List Ag}, Paired (AgR g H O σ) vs as → Paired (AgR g H1 O1 σ) vs as
  | _, _, .nil => .nil
  | _, _, .cons r rs => .cons (r.stp S s) (ag_stp S s rs)
theorem ag_of {H : Hp} {O : AP1} {σ : St} : ∀ {zs : List V} {ds : List Wr.D}, RDs g H O zs ds → Paired (AgR g H O σ) zs (ds.map Sum.inl)
  | _, _, .nil => .nil
  | _, _, .cons h hs => .cons h (ag_of hs)
theorem ag_app {H : Hp} {O : AP1} {σ : St} {zs : List V} {ds : List Wr.D} (h2 : RDs g H O zs ds) : ∀ {vs : List V} {as : List Ag}, Paired (AgR g H O σ) vs as → Paired (AgR g H O σ) (vs ++ zs) (as ++ ds.map .inl)
  | _, _, .cons h hs => .cons h (ag_app h2 hs)
  | _, _, .nil => ag_of h2
/-- how a def binds n values by position and some by name -/
def KBn (fd : FuncData) (ps : List Str) (n : Nat) (ks : List Str) (pm : List Nat) : Prop := ∀ us ws : List Value, us.length = n → ws.length = ks.length → bindArgs fd ⟨us, ks.zip ws⟩ = pure (ps.zip (permL pm (us ++ ws)))
end
section
variable {g : Gm} {W : WX} {X : Cx} {pos p : Pos} {k : Nat} {f : Addr} {fd : FuncData} {ps : List Str} {es : List Expr} {ss : List (Sm ⊕ Nat)} {x : Str} (C : CtxOk g X)
include C
theorem runG {pins : List (Addr × Obj)} {σ : St} {H : Hp} {s : Shared} {Q : VK} {us : List Value} {vs : List V} {sp : Sp} (tk : Takes X W) (F : FnG g X.prog X.w X.base k f fd ps sp) (hr : Room k X.A) (hb : Binds X.K fd ps [])
    (I : Inv X pins σ H s) (r : Vals vs us) (h : sp vs H Q (WE W σ)) : wpAny (model X.prog X.w) X.A (call (.ref f) us) (EP X pins σ Q) X.xe s := by
  have hl : us.length = ps.length := by rw [← r.length]; exact F.len _ _ _ _ h
  have b := hb s us I.kIn (by rw [List.append_nil]; exact hl)
  rw [List.append_nil] at b
  have e0 := I.env0
  rw [C.hK, C.hmg] at e0
  refine wpAny_call (codeAny_mono (F.run X.A X.stack s H ⟨us, []⟩ us vs Q (WE W σ) hr C.gd e0 b r h) fun r s' hq => ?_)
  cases r with
  | error e => exact passAt tk σ pins H s e s' I hq
  | ok fl =>
    cases fl with
    | ret u => exact I.after hq
    | next => exact False.elim hq
    | brk => exact False.elim hq
    | cont => exact False.elim hq
theorem de_call {cf : Fn} (tk : Takes X W) (F : FnG g X.prog X.w X.base k f fd ps (spF g (cf x))) (hr : Room k X.A) (hg : Gl X x) (hm : g.mg x = some (.ref f)) (hk : PySem.W.keepIn g.K (.ref f) = true) (hb : Binds g.K fd ps []) (hdb : (x == ("__debug__" : Str)) = false)
    (h : Paired (ArR g W X) es ss) (hne : es ≠ []) : PE X (.Call (.Name x p) es [] pos) (tE g W fun ρ => (evA ss ρ).bd fun as ρ1 => called cf x as ρ1) := by
  obtain ⟨e, es, rfl⟩ : ∃ e r, es = e :: r := by
    cases es with
    | nil => exact absurd rfl hne
    | cons e r => exact ⟨e, r, rfl⟩
  have ha := pas_ag h
  have h1 : NotStar e := by cases h with | cons h _ => exact h.ns
  have h2 : (backTo pos (starEach es X.env)).any (·.1) = false := by cases h with | cons _ hs => exact no_starA hs _ _
  refine ⟨fun pins s σ H Q I ⟨O, ρ, S, q⟩ => ?_⟩
  refine wpAny_Call_Name_kw (ld_glob I hg (by rw [C.hmg]; exact hm) ?_ hdb)
  refine PySem.W.callWith_K (h₀ := X.base) I.ok.mod.kin (by rw [C.hK]; exact hk) ?_ (h1 es _) h2
  refine thn (ha.run pos pins s σ H (fun vs H1 => spF g (cf x) vs H1 Q (WE W σ)) I (run_ag S q fun as ρ1 vs H1 O1 s1 hv q1 => ?_)) fun us s1 ⟨vs, H1, I1, r, q⟩ => ⟨I1.kIn, runG C tk F hr (by rw [C.hK]; exact hb) I1 r q⟩
  unfold called at q1
  split at q1
  · rename_i sls el
    by_cases nd : (lent as).Nodup
    · rw [if_pos nd] at q1
      refine ⟨O1, sls, lend_st s1.st hv el nd, lend_all el, ?_⟩
      · cases ec : cf x sls with
        | ok r back =>
          rw [ec] at q1
          cases eh : home as back ρ1 with
          | some ρ2 =>
            dsimp only at q1
            rw [eh] at q1
            have hh := home_of nd eh
            refine fun v H' O' b rv => ?_
            have s2 := call_stp s1.st hv el nd hh b
            refine q1 v H' O' (s1.trans s2) ?_
            cases r with
            | sh d => exact rv
            | fr d =>
              obtain ⟨a, e, n, oa, ob⟩ := rv
              exact ⟨a, e, s1.fr.there a n, oa, fun z => s1.st.obj a (s1.st.wn a (s2.sub a z)) n, ob⟩
          | none =>
            dsimp only at q1
            rw [eh] at q1
            exact q1.elim
        | ex x back =>
          rw [ec] at q1
          cases eh : home as back ρ1 with
          | some ρ2 =>
            dsimp only at q1
            rw [eh] at q1
            have hh := home_of nd eh
            refine fun c dx H' O' b rx => ?_
            exact q1 c dx H' O' (call_stp s1.st hv el nd hh b) rx
          | none =>
            dsimp only at q1
            rw [eh] at q1
            exact q1.elim
        | st => rw [ec] at q1; exact q1.elim
    · rw [if_neg nd] at q1
      exact q1.elim
  · exact q1.elim
/-- what a call's arguments and its outcome make of the def's promise -/
theorem sp_called {cf : Fn} {σ : St} {ρ ρ1 : Rho} {H H1 : Hp} {O O1 : AP1} {Q : VK} {as : List Ag} {vs : List V} (S : StR g H O σ ρ) (s1 : Stp g σ ρ H O ρ1 H1 O1) (hv : Paired (AgR g H1 O1 σ) vs as)
    (q1 : RW W g σ ρ1 H1 O1 (called cf x as ρ1) fun r ρ' => ∀ v H' O', Stp g σ ρ H O ρ' H' O' → RsR g H σ ρ' H' O' v r → Q v H') : spF g (cf x) vs H1 Q (WE W σ) := by
  unfold called at q1
  split at q1
  · rename_i sls el
    by_cases nd : (lent as).Nodup
    · rw [if_pos nd] at q1
      refine ⟨O1, sls, lend_st s1.st hv el nd, lend_all el, ?_⟩
      · cases ec : cf x sls with
        | ok r back =>
          rw [ec] at q1
          cases eh : home as back ρ1 with
          | some ρ2 =>
            dsimp only at q1
            rw [eh] at q1
            have hh := home_of nd eh
            refine fun v H' O' b rv => ?_
            have s2 := call_stp s1.st hv el nd hh b
            refine q1 v H' O' (s1.trans s2) ?_
            cases r with
            | sh d => exact rv
            | fr d =>
              obtain ⟨a, e, n, oa, ob⟩ := rv
              exact ⟨a, e, s1.fr.there a n, oa, fun z => s1.st.obj a (s1.st.wn a (s2.sub a z)) n, ob⟩
          | none =>
            dsimp only at q1
            rw [eh] at q1
            exact q1.elim
        | ex x back =>
          rw [ec] at q1
          cases eh : home as back ρ1 with
          | some ρ2 =>
            dsimp only at q1
            rw [eh] at q1
            have hh := home_of nd eh
            refine fun c dx H' O' b rx => ?_
            exact q1 c dx H' O' (call_stp s1.st hv el nd hh b) rx
          | none =>
            dsimp only at q1
            rw [eh] at q1
            exact q1.elim
        | st => rw [ec] at q1; exact q1.elim
    · rw [if_neg nd] at q1
      exact q1.elim
  · exact q1.elim
omit C in
theorem Fr.hide {U : AP1} {a : Addr} {H H1 H2 : Hp} {O O1 O2 : AP1} (f1 : Fr U H O H1 O1) (n : H a = none) (f2 : Fr (fun b => b = a) H1 O1 H2 O2) (ob : ∀ b, O b → H b ≠ none) : Fr U H O H2 O2 :=
  ⟨fun b o e t u => f2.kp b o (f1.kp b o e t u) t fun z => (by rw [z, n] at e; cases e), fun P u t => f2.tb P (fun z => by
      obtain ⟨ps, e, _⟩ := t
      rw [z, n] at e
      cases e) (f1.tb P u t), fun b e => f1.there b (f2.there b e), fun b o u => f2.o1 b (f1.o1 b o u) fun z => ob b o (z ▸ n), fun b o => (f2.o2 b o).elim (f1.o2 b) fun z => .inr (f1.there b z)⟩
theorem de_callF {cf : Fn} {e : Expr} {sa : Sm} (tk : Takes X W) (F : FnG g X.prog X.w X.base k f fd ps (spF g (cf x))) (hr : Room k X.A) (hg : Gl X x) (hm : g.mg x = some (.ref f)) (hk : PySem.W.keepIn g.K (.ref f) = true) (hb : Binds g.K fd ps []) (hdb : (x == ("__debug__" : Str)) = false)
    (h : AS g W X e sa) : PE X (.Call (.Name x p) [e] [] pos) (tE g W (callFV cf x sa)) := by
  have ha := pa_cons h.es.v pa_nil (h.ns [] X.env)
  refine ⟨fun pins s σ H Q I ⟨O, ρ, S, q⟩ => wpAny_Call_Name_kw (ld_glob I hg (by rw [C.hmg]; exact hm) (PySem.W.callWith_K (h₀ := X.base) I.ok.mod.kin (by rw [C.hK]; exact hk)
    (thn (ha.run pos pins s σ H (fun vs H1 => spF g (cf x) vs H1 Q (WE W σ)) I ⟨O, ρ, S, (RW.bd q).imp fun r ρ1 q1 v H1 O1 s1 rv => ?_⟩) fun us s1 ⟨vs, H1, I1, r, q⟩ => ⟨I1.kIn, runG C tk F hr (by rw [C.hK]; exact hb) I1 r q⟩) (h.ns [] _) rfl) hdb)⟩
  cases r with
  | sh d => exact q1.elim
  | fr d =>
    obtain ⟨a, ev, na, oa, nw, ob⟩ := rv
    subst ev
    have st1 : StR g H1 O1 ([V.ref a].map some) [.io d] := by
      refine ⟨rfl, fun i v s e1 e2 => ?_, fun i j s t b e1 o1 e2 o2 f1 f2 => ?_, s1.st.obj, s1.st.tabs⟩
      · cases i with
        | zero => cases e1; cases e2; exact .io oa ob
        | succ i => cases e2
      · cases i with
        | zero =>
          cases j with
          | zero => rfl
          | succ j => cases e2
        | succ i => cases e1
    have wa : ∀ b, Wn ([V.ref a].map some) [.io d] b → b = a := fun b ⟨i, s, e1, o, e2⟩ => by
      cases i with
      | zero => cases e2; rfl
      | succ i => cases e1
    have stp : ∀ {back : Rho} {H' : Hp} {O' : AP1}, CBk g [.ref a] [.io d] back H1 O1 H' O' → Stp g σ ρ H O ρ1 H' O' := fun {back H' O'} b => by
      have f2 := b.fr.mono wa
      exact ⟨Fr.hide s1.fr na f2 S.obj, s1.st.fr0 f2 (fun c e => e ▸ oa) (fun c e z => nw (e ▸ z)) b.obj, s1.sub, s1.io⟩
    refine ⟨O1, [.io d], st1, rfl, ?_⟩
    dsimp only at q1
    cases ec : cf x [.io d] with
    | ok r2 back =>
      rw [ec] at q1
      refine fun v H' O' b rv => q1 v H' O' (stp b) ?_
      cases r2 with
      | sh d2 => exact rv
      | fr d2 =>
        obtain ⟨c, e, n, oc, obc⟩ := rv
        exact ⟨c, e, s1.fr.there c n, oc, fun z => s1.st.obj c (s1.st.wn c z) n, obc⟩
    | ex y back =>
      rw [ec] at q1
      exact fun c dx H' O' b rx => q1 c dx H' O' (stp b) rx
    | st => rw [ec] at q1; exact q1.elim
theorem de_callK {cf : Fn} {n : Nat} {ks : List Str} {pm : List Nat} {kws : List Keyword} {sk : List Sm} (tk : Takes X W) (F : FnG g X.prog X.w X.base k f fd ps (spF g (cf x))) (hr : Room k X.A) (hg : Gl X x) (hm : g.mg x = some (.ref f)) (hk : PySem.W.keepIn g.K (.ref f) = true)
    (hb : KBn fd ps n ks pm) (hdb : (x == ("__debug__" : Str)) = false) (h : Paired (ArR g W X) es ss) (hw : Paired (AS g W X) (kws.map (·.value)) sk) (hks : kws.map (·.arg) = ks.map some) :
    PE X (.Call (.Name x p) es kws pos) (tE g W fun ρ => (evA ss ρ).bd fun xs ρ1 => (evEs sk ρ1).bd fun ds ρ2 => if xs.length = n ∧ ds.length = ks.length then called cf x (permL pm (xs ++ ds.map .inl)) ρ2 else .st) := by
  have ha := pas_ag h
  have hpk := pk_of hw
  obtain ⟨k1, k2, k3⟩ := kw_plain (pos := pos) (env := X.env) hks
  have fin : ∀ {pins : List (Addr × Obj)} {σ : St} {H1 : Hp} {s1 : Shared} {Q : VK} {vs zs : List V} {us ws : List Value}, Inv X pins σ H1 s1 → Vals vs us → Vals zs ws → vs.length = n → zs.length = ks.length → spF g (cf x) (permL pm (vs ++ zs)) H1 Q (WE W σ) →
      wpAny (model X.prog X.w) X.A (call (.ref f) us (ks.zip ws)) (EP X pins σ Q) X.xe s1 := fun {pins σ H1 s1 Q vs zs us ws} I r rz l1 l2 hsp => by
    have e0 := I.env0
    rw [C.hK, C.hmg] at e0
    refine wpAny_call (codeAny_mono (F.run X.A X.stack s1 H1 ⟨us, ks.zip ws⟩ (permL pm (us ++ ws)) (permL pm (vs ++ zs)) Q (WE W σ) hr C.gd e0 (BindsTo.of_eq (hb us ws (by rw [← r.length]; exact l1) (by rw [← rz.length]; exact l2))) (permL_vals (r.append rz) pm) hsp) fun r s' hq => ?_)
    cases r with
    | error e => exact passAt tk σ pins H1 s1 e s' I hq
    | ok fl =>
      cases fl with
      | ret u => exact I.after hq
      | next => exact False.elim hq
      | brk => exact False.elim hq
      | cont => exact False.elim hq
  refine ⟨fun pins s σ H Q I ⟨O, ρ, S, q⟩ => ?_⟩
  refine wpAny_Call_Name_kw (ld_glob I hg (by rw [C.hmg]; exact hm) ?_ hdb)
  have kwl : ∀ {us : List Value} {s1 : Shared} {vs : List V} {H1 : Hp}, Vals vs us → Inv X pins σ H1 s1 → (tAs g W (evEs sk) σ H1 fun zs H2 => vs.length = n ∧ zs.length = ks.length ∧ spF g (cf x) (permL pm (vs ++ zs)) H2 Q (WE W σ)) →
      wpAny (model X.prog X.w) X.A (evalAll ((backToKw pos (keywordEach kws X.env)).map (fun p => p.2))) (fun ws s₂ => X.K.In s₂.heap ∧ wpAny (model X.prog X.w) X.A (call (.ref f) us (((backToKw pos (keywordEach kws X.env)).filterMap (fun p => p.1)).zip ws)) (EP X pins σ Q) X.xe s₂) X.xe s1 := fun {us s1 vs H1} r I1 q1 => by
    refine thn (hpk.run pos pins s1 σ H1 _ I1 q1) fun ws s2 ⟨zs, H2, I2, rz, l1, l2, q2⟩ => ⟨I2.kIn, ?_⟩
    rw [k2]
    exact fin I2 r rz l1 l2 q2
  match es, ss, h with
  | [], _, .nil =>
    refine PySem.W.callWith_KW0 (h₀ := X.base) I.ok.mod.kin (by rw [C.hK]; exact hk) k1 ?_ (by rw [k3]; rfl)
    refine kwl (us := []) (vs := []) .nil I ?_
    have q' : RW W g σ ρ H O ((evEs sk ρ).bd fun ds ρ2 => if ([] : List Ag).length = n ∧ ds.length = ks.length then called cf x (permL pm ([] ++ ds.map .inl)) ρ2 else .st) fun r ρ' => ∀ v H' O', Stp g σ ρ H O ρ' H' O' → RsR g H σ ρ' H' O' v r → Q v H' := q
    refine run_as S q' fun ds ρ2 zs H2 O2 s2 rvs q2 => ?_
    split at q2
    · rename_i hl
      exact ⟨hl.1, by rw [rvs.len]; exact hl.2, sp_called C S s2 (permL_ag (ag_app rvs .nil) pm) q2⟩
    · exact q2.elim
  | e :: es, _, .cons h hs =>
    have h1 : NotStar e := h.ns
    have h2 : (backTo pos (starEach (e :: es) X.env)).any (fun p => p.1) = false := no_starA (.cons h hs) _ _
    refine PySem.W.callWith_KW (h₀ := X.base) I.ok.mod.kin (by rw [C.hK]; exact hk) k1 ?_ (by rw [h2, k3]; rfl) (h1 es _)
    refine thn (ha.run pos pins s σ H (fun vs H1 => tAs g W (evEs sk) σ H1 fun zs H2 => vs.length = n ∧ zs.length = ks.length ∧ spF g (cf x) (permL pm (vs ++ zs)) H2 Q (WE W σ)) I (run_ag S q fun as ρ1 vs H1 O1 s1 hv q1 => ?_)) fun us s1 ⟨vs, H1, I1, r, q⟩ => kwl r I1 q
    refine run_as s1.st q1 fun ds ρ2 zs H2 O2 s2 rvs q2 => ?_
    split at q2
    · rename_i hl
      have hv2 := ag_stp s1.st s2 hv
      exact ⟨by rw [Paired.length hv]; exact hl.1, by rw [rvs.len]; exact hl.2, sp_called C S (s1.trans s2) (permL_ag (ag_app rvs hv2) pm) q2⟩
    · exact q2.elim
theorem de_call0 {cf : Fn} (tk : Takes X W) (F : FnG g X.prog X.w X.base k f fd ps (spF g (cf x))) (hr : Room k X.A) (hg : Gl X x) (hm : g.mg x = some (.ref f)) (hk : PySem.W.keepIn g.K (.ref f) = true) (hb : Binds g.K fd ps []) (hdb : (x == ("__debug__" : Str)) = false) :
    PE X (.Call (.Name x p) [] [] pos) (tE g W fun ρ => called cf x [] ρ) := by
  refine ⟨fun pins s σ H Q I ⟨O, ρ, S, q⟩ => ?_⟩
  refine wpAny_Call_Name_kw (ld_glob I hg (by rw [C.hmg]; exact hm) ?_ hdb)
  refine PySem.W.callWith_K0 I.kIn (by rw [C.hK]; exact hk) (runG C tk F hr (by rw [C.hK]; exact hb) I .nil ?_)
  have s1 : Stp g σ ρ H O ρ H O := .refl S
  have hv : Paired (AgR g H O σ) ([] : List V) ([] : List Ag) := .nil
  have nd : (lent ([] : List Ag)).Nodup := List.nodup_nil
  have el : lend ρ ([] : List Ag) = some [] := rfl
  have eh : ∀ back : Rho, home ([] : List Ag) back ρ = some ρ := fun back => by cases back <;> rfl
  have e : called cf x [] ρ = (match cf x [] with
    | .ok r back => .ok r ρ
    | .ex y back => .ex y ρ
    | .st => .st) := by
    unfold called
    rw [el]
    show (if (lent ([] : List Ag)).Nodup then _ else _) = _
    rw [if_pos nd]
    cases cf x [] <;> simp only [eh]
  have q1 : RW W g σ ρ H O (called cf x [] ρ) fun r ρ' => ∀ v H' O', Stp g σ ρ H O ρ' H' O' → RsR g H σ ρ' H' O' v r → Q v H' := q
  rw [e] at q1
  refine ⟨O, [], lend_st S hv el nd, rfl, ?_⟩
  cases ec : cf x [] with
  | ok r back =>
    rw [ec] at q1
    refine fun v H' O' b rv => ?_
    have s2 := call_stp S hv el nd (home_of nd (eh back)) b
    refine q1 v H' O' s2 ?_
    cases r with
    | sh d => exact rv
    | fr d =>
      obtain ⟨a, e, n, oa, ob⟩ := rv
      exact ⟨a, e, n, oa, fun z => S.obj a (S.wn a (s2.sub a z)) n, ob⟩
  | ex y back =>
    rw [ec] at q1
    exact fun c dx H' O' b rx => q1 c dx H' O' (call_stp S hv el nd (home_of nd (eh back)) b) rx
  | st => rw [ec] at q1; exact q1.elim
theorem de_callV {cf : Fn} {i : Nat} {fs : List Str} (tk : Takes X W) (hF : ∀ y : Str, y ∈ fs → ∃ k f fd ps, FnG g X.prog X.w X.base k f fd ps (spF g (cf y)) ∧ Room k X.A ∧ g.mg y = some (.ref f) ∧ PySem.W.keepIn g.K (.ref f) = true ∧ Binds g.K fd ps []) (hN : X.N[i]? = some x) (hv : Vis X.env.scope x) (hdb : (x == ("__debug__" : Str)) = false) (hcd : (x == ("__classdict__" : Str)) = false)
    (h : Paired (ArR g W X) es ss) (hne : es ≠ []) : PE X (.Call (.Name x p) es [] pos) (tE g W (callVV cf i fs ss)) := by
  obtain ⟨e, es, rfl⟩ : ∃ e r, es = e :: r := by
    cases es with
    | nil => exact absurd rfl hne
    | cons e r => exact ⟨e, r, rfl⟩
  have ha := pas_ag h
  have h1 : NotStar e := by cases h with | cons h _ => exact h.ns
  have h2 : (backTo pos (starEach es X.env)).any (·.1) = false := by cases h with | cons _ hs => exact no_starA hs _ _
  refine ⟨fun pins s σ H Q I ⟨O, ρ, S, q⟩ => ?_⟩
  unfold callVV at q
  split at q
  case h_2 => exact q.elim
  rename_i y eρ
  obtain ⟨v0, ev, rv0⟩ := S.get eρ
  cases rv0 with
  | sh rv0 =>
  cases rv0 with
  | fnc hm0 =>
  rename_i f0
  by_cases hin : fs.contains y = true
  case neg =>
    rw [if_neg hin] at q
    exact q.elim
  rw [if_pos hin] at q
  obtain ⟨k, f, fd, ps, F, hr, hm, hk, hb⟩ := hF y (List.contains_iff_mem.mp hin)
  rw [hm] at hm0
  obtain rfl : f = f0 := Value.ref.inj (Option.some.inj hm0)
  refine wpAny_Call_Name_kw (thn ((pe_var (pos := p) hN hv hdb hcd).run pins s σ H (fun v H1 => v = .ref f ∧ H1 = H) I ⟨.ref f, ev, rfl, rfl⟩) fun u s0 ⟨v, H0, I0, r0, q0⟩ => ?_)
  obtain ⟨rfl, rfl⟩ := q0
  cases r0
  replace I := I0
  refine PySem.W.callWith_K (h₀ := X.base) I.ok.mod.kin (by rw [C.hK]; exact hk) ?_ (h1 es _) h2
  refine thn (ha.run pos pins s0 σ _ (fun vs H1 => spF g (cf y) vs H1 Q (WE W σ)) I (run_ag S q fun as ρ1 vs H1 O1 s1 hv q1 => ?_)) fun us s1 ⟨vs, H1, I1, r, q⟩ => ⟨I1.kIn, runG C tk F hr (by rw [C.hK]; exact hb) I1 r q⟩
  unfold called at q1
  split at q1
  · rename_i sls el
    by_cases nd : (lent as).Nodup
    · rw [if_pos nd] at q1
      refine ⟨O1, sls, lend_st s1.st hv el nd, lend_all el, ?_⟩
      · cases ec : cf y sls with
        | ok r back =>
          rw [ec] at q1
          cases eh : home as back ρ1 with
          | some ρ2 =>
            dsimp only at q1
            rw [eh] at q1
            have hh := home_of nd eh
            refine fun v H' O' b rv => ?_
            have s2 := call_stp s1.st hv el nd hh b
            refine q1 v H' O' (s1.trans s2) ?_
            cases r with
            | sh d => exact rv
            | fr d =>
              obtain ⟨a, e, n, oa, ob⟩ := rv
              exact ⟨a, e, s1.fr.there a n, oa, fun z => s1.st.obj a (s1.st.wn a (s2.sub a z)) n, ob⟩
          | none =>
            dsimp only at q1
            rw [eh] at q1
            exact q1.elim
        | ex z back =>
          rw [ec] at q1
          cases eh : home as back ρ1 with
          | some ρ2 =>
            dsimp only at q1
            rw [eh] at q1
            have hh := home_of nd eh
            refine fun c dx H' O' b rx => ?_
            exact q1 c dx H' O' (call_stp s1.st hv el nd hh b) rx
          | none =>
            dsimp only at q1
            rw [eh] at q1
            exact q1.elim
        | st => rw [ec] at q1; exact q1.elim
    · rw [if_neg nd] at q1
      exact q1.elim
  · exact q1.elim
end
end Wr
namespace Wr
open PySem PySem.Spec L2
open PyProof.Rows hiding St
/-- where a stretch of code began: the heap, O, what it may write of that, its lent slots -/
structure En where
  H0 : Hp
  O0 : AP1
  W0 : AP1
  ios : List (Nat × Addr)
structure SI (g : Gm) (E : En) (H : Hp) (O : AP1) (σ : St) (ρ : Rho) : Prop where
  st : StR g H O σ ρ
  fr : Fr E.W0 E.H0 E.O0 H O
  wn : ∀ b, Wn σ ρ b → E.W0 b ∨ E.H0 b = none
  o0 : ∀ b, E.O0 b → E.H0 b ≠ none
  io : ∀ p ∈ E.ios, σ[p.1]? = some (some (.ref p.2)) ∧ ∃ d, ρ[p.1]? = some (.io d)
section
variable {g : Gm} {E : En} {σ σ1 : St} {ρ ρ1 : Rho} {H H1 : Hp} {O O1 : AP1}
theorem SI.fstep (S : SI g E H O σ ρ) (f : Fr (Wn σ ρ) H O H1 O1) : Fr E.W0 E.H0 E.O0 H1 O1 := by
  have nw : ∀ b o, E.H0 b = some o → ¬ E.W0 b → ¬ Wn σ ρ b := fun b o e n z => by
    rcases S.wn b z with q | q
    · exact n q
    · rw [e] at q; cases q
  exact ⟨fun b o e t n => f.kp b o (S.fr.kp b o e t n) t (nw b o e n), fun P n t => f.tb P (fun z => by
    obtain ⟨ps, e, _⟩ := id t
    exact nw P _ e n z) (S.fr.tb P n t), fun b e => S.fr.there b (f.there b e), fun b e n => by
    cases q : E.H0 b with
    | none => exact absurd q (S.o0 b e)
    | some o => exact f.o1 b (S.fr.o1 b e n) (nw b o q n), fun b e => (f.o2 b e).elim (S.fr.o2 b) fun z => .inr (S.fr.there b z)⟩
theorem SI.step (S : SI g E H O σ ρ) (s : Stp g σ ρ H O ρ1 H1 O1) : SI g E H1 O1 σ ρ1 :=
  ⟨s.st, S.fstep s.fr, fun b z => S.wn b (s.sub b z), S.o0, fun p hp => let ⟨e1, d, e2⟩ := S.io p hp; ⟨e1, s.io p.1 d e2⟩⟩
theorem SI.bnd {vs : List Nat} (S : SI g E H O σ ρ) (b : Bnd g H O vs σ ρ σ1 ρ1) : SI g E H O σ1 ρ1 :=
  ⟨b.st, S.fr, fun c z => S.wn c (b.wn c z), S.o0, fun p hp => let ⟨e1, d, e2⟩ := S.io p hp; let ⟨f1, f2⟩ := b.io p.1 d e2; ⟨f2.trans e1, d, f1⟩⟩
/-- from a later beginning -/
theorem SI.comp (S : SI g E H1 O1 σ1 ρ1) (T : SI g ⟨H1, O1, Wn σ1 ρ1, E.ios⟩ H O σ ρ) : SI g E H O σ ρ :=
  ⟨T.st, S.fstep T.fr, fun b z => (T.wn b z).elim (S.wn b) fun e => .inr (S.fr.there b e), S.o0, T.io⟩
theorem SI.begin_ (S : SI g E H1 O1 σ1 ρ1) : SI g ⟨H1, O1, Wn σ1 ρ1, E.ios⟩ H1 O1 σ1 ρ1 := ⟨S.st, .refl _ _ _, fun _ z => .inl z, S.st.obj, S.io⟩
theorem SI.grow (S : SI g E H O σ ρ) (h : H1 = H ∨ ∃ T o, H T = none ∧ H1 = upd H T o) : SI g E H1 O σ ρ := by
  rcases h with rfl | ⟨T, o, n, rfl⟩
  · exact S
  · exact ⟨S.st.laid n, S.fr.trans (Fr.laid (W := fun _ => False) n) fun _ z => z.elim, S.wn, S.o0, S.io⟩
/-- what leaves by return -/
def RtF (g : Gm) (E : En) (σ : St) (ρ : Rho) (H : Hp) (O : AP1) (v : V) : Rs → Prop
  | .sh d => RD g H O v d
  | .fr d => ∃ a, v = .ref a ∧ O a ∧ ¬ Wn σ ρ a ∧ Ob g H O a d ∧ (E.H0 a = none ∨ E.W0 a)
/-- what is asked of a statement's outcome -/
def SO (g : Gm) (W : WX) (E : En) (r : Re Out) (D : Ends) : Prop := match r with
  | .ok .nx ρ' => ∀ σ' H' O', SI g E H' O' σ' ρ' → D.nx σ' H'
  | .ok .bk ρ' => ∀ σ' H' O', SI g E H' O' σ' ρ' → D.bk σ' H'
  | .ok .ct ρ' => ∀ σ' H' O', SI g E H' O' σ' ρ' → D.ct σ' H'
  | .ok (.rt r) ρ' => ∀ v σ' H' O', SI g E H' O' σ' ρ' → RtF g E σ' ρ' H' O' v r → D.rt v H'
  | .ex x ρ' => ∀ c dx σ' H' O', SI g E H' O' σ' ρ' → XnR g H' O' x c dx → W c dx σ' H'
  | .st => False
def tS (g : Gm) (W : WX) (E : En) (f : Rho → Re Out) : TS := fun D σ H => ∃ O ρ, SI g E H O σ ρ ∧ SO g W E (f ρ) D
variable {W : WX} {α : Type}
/-- an expression's step ahead of the rest of a statement -/
theorem so_rw {r : Re α} {k : α → Rho → Re Out} {D : Ends} (S : SI g E H O σ ρ) (h : SO g W E (r.bd k) D) : RW W g σ ρ H O r fun a ρ1 => SO g W E (k a ρ1) D := by
  cases r with
  | ok a ρ1 => exact h
  | ex x ρ1 => exact fun c dx H' O' s xr => h c dx σ H' O' (S.step s) xr
  | st => exact h
end
theorem psImp {X : Cx} {st : Stmt} {t t' : TS} (h : PS X st t) (f : ∀ D σ H, t' D σ H → t D σ H) : PS X st t' := ⟨fun pins s σ H D I q => h.run pins s σ H D I (f D σ H q)⟩
theorem pssImp {X : Cx} {st : List Stmt} {t t' : TS} (h : PSs X st t) (f : ∀ D σ H, t' D σ H → t D σ H) : PSs X st t' := ⟨fun pins s σ H D I q => h.run pins s σ H D I (f D σ H q)⟩
section
variable {g : Gm} {E : En} {W : WX} {X : Cx} {pos : Pos} {e c : Expr}
/-- a result that may go into a slot -/
def RsI (g : Gm) (E : En) (σ : St) (ρ : Rho) (H : Hp) (O : AP1) (v : V) : Rs → Prop
  | .sh d => RD g H O v d
  | .fr d => ∃ a, v = .ref a ∧ E.H0 a = none ∧ O a ∧ ¬ Wn σ ρ a ∧ Ob g H O a d
theorem set_rs {σ : St} {ρ ρ1 : Rho} {H : Hp} {O : AP1} {i : Nat} {v : V} {r : Rs} (S : SI g E H O σ ρ) (h : RsI g E σ ρ H O v r) (e : setRs i r ρ = some ρ1) :
    SI g E H O (σ.set i (some v)) ρ1 ∧ ∀ b, Wn (σ.set i (some v)) ρ1 b → Wn σ ρ b ∨ (v = .ref b ∧ ∃ d, r = .fr d) := by
  cases r with
  | sh d =>
    have e' : setSh i d ρ = some ρ1 := by
      rw [← e]
      unfold setRs setSh
      cases q : ρ[i]? with
      | none => rfl
      | some s => cases s <;> rfl
    have b := bnd_sh (v := v) S.st h e'
    exact ⟨S.bnd b, fun c z => .inl (b.wn c z)⟩
  | fr d =>
    obtain ⟨a, rfl, n0, oa, nw, ob⟩ := h
    unfold setRs at e
    split at e
    · cases e
    · rename_i s hs es
      cases e
      have hl : i < ρ.length := (List.getElem?_eq_some_iff.mp es).1
      have hl2 : i < σ.length := by rw [S.st.len]; exact hl
      have out : ∀ {j : Nat} {t : Sl}, (ρ.set i (Sl.ow d))[j]? = some t → t.own = true → (j = i ∧ t = .ow d) ∨ (i ≠ j ∧ ρ[j]? = some t) := fun {j t} e o => by
        by_cases hj : i = j
        · subst hj
          rw [List.getElem?_set_self hl] at e
          cases e
          exact .inl ⟨rfl, rfl⟩
        · rw [List.getElem?_set_ne hj] at e
          exact .inr ⟨hj, e⟩
      have wn : ∀ b, Wn (σ.set i (some (.ref a))) (ρ.set i (Sl.ow d)) b → Wn σ ρ b ∨ b = a := fun b ⟨j, t, e1, o, e2⟩ => by
        rcases out e1 o with ⟨rfl, rfl⟩ | ⟨hj, e⟩
        · rw [List.getElem?_set_self hl2] at e2
          cases e2
          exact .inr rfl
        · rw [List.getElem?_set_ne hj] at e2
          exact .inl ⟨j, t, e, o, e2⟩
      refine ⟨⟨⟨by rw [List.length_set, List.length_set]; exact S.st.len, fun j w t e1 e2 => ?_, fun j k t u b e1 o1 e2 o2 f1 f2 => ?_, S.st.obj, S.st.tabs⟩, S.fr, fun b z => ?_, S.o0, fun p hp => ?_⟩, fun b z => ?_⟩
      · by_cases hj : i = j
        · subst hj
          rw [List.getElem?_set_self hl] at e2
          rw [List.getElem?_set_self hl2] at e1
          cases e1
          cases e2
          exact .ow oa ob
        · rw [List.getElem?_set_ne hj] at e1 e2
          exact S.st.at_ j w t e1 e2
      · rcases out e1 o1 with ⟨rfl, rfl⟩ | ⟨hj, g1⟩
        · rw [List.getElem?_set_self hl2] at f1
          cases f1
          rcases out e2 o2 with ⟨rfl, rfl⟩ | ⟨hk, g2⟩
          · rfl
          · rw [List.getElem?_set_ne hk] at f2
            exact absurd ⟨k, u, g2, o2, f2⟩ nw
        · rw [List.getElem?_set_ne hj] at f1
          rcases out e2 o2 with ⟨rfl, rfl⟩ | ⟨hk, g2⟩
          · rw [List.getElem?_set_self hl2] at f2
            cases f2
            exact absurd ⟨j, t, g1, o1, f1⟩ nw
          · rw [List.getElem?_set_ne hk] at f2
            exact S.st.one j k t u b g1 o1 g2 o2 f1 f2
      · rcases wn b z with z | z
        · exact S.wn b z
        · exact .inr (z ▸ n0)
      · obtain ⟨e1, f, e2⟩ := S.io p hp
        have hp1 : i ≠ p.1 := fun z => by
          rw [← z, es] at e2
          cases e2
          exact hs _ rfl
        exact ⟨by rw [List.getElem?_set_ne hp1]; exact e1, f, by rw [List.getElem?_set_ne hp1]; exact e2⟩
      · rcases wn b z with z | z
        · exact .inl z
        · exact .inr ⟨by rw [z], d, rfl⟩
    · cases e
theorem RsR.inE {σ : St} {ρ ρ1 : Rho} {H H1 : Hp} {O O1 : AP1} {v : V} {r : Rs} (S : SI g E H O σ ρ) (h : RsR g H σ ρ1 H1 O1 v r) : RsI g E σ ρ1 H1 O1 v r := by
  cases r with
  | sh d => exact h
  | fr d =>
    obtain ⟨a, e, n, o, w, b⟩ := h
    exact ⟨a, e, S.fr.there a n, o, w, b⟩
theorem red_asg {i : Nat} {s : Sm} {D : Ends} {σ : St} {H : Hp} (h : tS g W E (asgV i s) D σ H) : tE g W s.v σ H fun x H1 => gName i x σ H1 D.nx := by
  obtain ⟨O, ρ, S, q⟩ := h
  refine ⟨O, ρ, S.st, (so_rw S q).imp fun r ρ1 q1 v H1 O1 s1 rv => ?_⟩
  split at q1
  · rename_i ρ2 e2
    exact q1 _ H1 O1 (set_rs (S.step s1) (rv.inE S) e2).1
  · exact q1.elim
theorem ds_asg (C : CtxOk g X) {i : Nat} {x : Str} {pos' : Pos} {s : Sm} (hi : X.N[i]? = some x) (hx : Loc X.env.scope x) (he : PE X e (tE g W s.v)) (hs : swapsWith e (some (.Name x pos')) pos.line X.env = pure false) (hf : X.fn x = true ∨ X.env.scope.names.lookup x = some .local) :
    PS X (.Assign [.Name x pos'] e pos) (tS g W E (asgV i s)) :=
  psImp (ps_set C.nd hi hx he hs hf) fun D σ H q => red_asg q
/-- a comprehension on the name's line -/
theorem ds_asgLc (C : CtxOk g X) {i : Nat} {y : Str} {py spos : Pos} {elt tg iter : Expr} {ifs : List Expr} {scope : Scope} {own : List (Str × Nat)} {it : Rho → Re (List Wr.D)} {sifs : List Sm} {se : Sm} {ct : CT} (hy : X.N[i]? = some y) (hyl : X.env.scope.names.lookup y = some .local)
    (hsw : swapsWith (.ListComp elt [⟨tg, iter, ifs, 0⟩] scope pos) (some (.Name y py)) spos.line X.env = pure true) (hi : PI X tg iter (tI g W it)) (ok : BlkOk X.N X.env.scope scope own) (hix : own.map (·.2) = ct.ix)
    (hg : ∀ (s : Shared) (H : Hp) (C : Addr) (cl : List (Str × Addr)) (fp : List Addr), PG (X.blk s H scope (compEnvC scope cl C X.env) fp) tg (gT X.K ct)) (ht : ∀ (s : Shared) (H : Hp) (C : Addr) (cl : List (Str × Addr)) (fp : List Addr), PTs (X.blk s H scope (compEnvC scope cl C X.env) fp) ifs (tQ g WF (evTs sifs)))
    (he : ∀ (s : Shared) (H : Hp) (C : Addr) (cl : List (Str × Addr)) (fp : List Addr), PE (X.blk s H scope (compEnvC scope cl C X.env) fp) elt (tE g WF se.v)) (hs : ∀ x, foldedSetIterable iter X.env x = pure x) :
    PS X (.Assign [.Name y py] (.ListComp elt [⟨tg, iter, ifs, 0⟩] scope pos) spos) (tS g W E (asgV i (.of (lcV ct it sifs se)))) := by
  have h := ps_setLc (pos := pos) C.calm C.nd hy hyl hsw hi ok hg ht he hs
  rw [hix] at h
  exact psImp h fun D σ H q => lc_red (elt := elt) (tg := tg) (iter := iter) (ifs := ifs) C (red_asg q)
theorem ds_asgT (C : CtxOk g X) {tg : Expr} {is : List Nat} {s : Sm} (he : PE X e (tE g W s.v)) (hg : PG X tg (gT X.K (.tp is))) (hs : swapsWithSole [tg] e pos.line X.env = pure false) (hw : swappedStores [tg] e X.env = pure none)
    (h1 : (assignEach [tg] X.env).map (·.2) = [assign tg X.env]) : PS X (.Assign [tg] e pos) (tS g W E (asgTV is s)) := by
  refine psImp (ps_asg he hg hs hw h1) fun D σ H ⟨O, ρ, S, q⟩ => ?_
  refine ⟨O, ρ, S.st, (so_rw S q).imp fun r ρ1 q1 v H1 O1 s1 rv => ?_⟩
  obtain ⟨O2, s2, r2⟩ := rv.share S.st s1
  split at q1
  · rename_i ρ2 e2
    rw [C.hK]
    exact gT_of s2.st r2 e2 fun σ1 b => q1 σ1 H1 O2 ((S.step s2).bnd b)
  · exact q1.elim
theorem ds_asgL (C : CtxOk g X) {tg : Expr} {is : List Nat} {s : Sm} (he : PE X e (tE g W s.v)) (hg : PG X tg (gLst X.K is.length (gNs is))) (hs : swapsWithSole [tg] e pos.line X.env = pure false) (hw : swappedStores [tg] e X.env = pure none)
    (h1 : (assignEach [tg] X.env).map (·.2) = [assign tg X.env]) : PS X (.Assign [tg] e pos) (tS g W E (asgLV is s)) := by
  refine psImp (ps_asg he hg hs hw h1) fun D σ H ⟨O, ρ, S, q⟩ => ?_
  refine ⟨O, ρ, S.st, (so_rw S q).imp fun r ρ1 q1 v H1 O1 s1 rv => ?_⟩
  obtain ⟨O2, s2, r2⟩ := rv.share S.st s1
  split at q1
  · rename_i ds ed
    split at q1
    · rename_i ρ2 e2
      rw [C.hK]
      rw [ed] at r2
      cases r2 with
      | lst h hs => exact ⟨_, _, rfl, h.sq, by rw [hs.len, setShs_len e2], gNs_of s2.st hs e2 fun σ1 b => q1 σ1 H1 O2 ((S.step s2).bnd b)⟩
    · exact q1.elim
  · exact q1.elim
inductive RsL (g : Gm) (H : Hp) (σ : St) (ρ' : Rho) (H' : Hp) (O' : AP1) : List V → List Rs → Prop where
  | nil : RsL g H σ ρ' H' O' [] []
  | sh {v : V} {d : D} {vs : List V} {rs : List Rs} : RD g H' O' v d → RsL g H σ ρ' H' O' vs rs → RsL g H σ ρ' H' O' (v :: vs) (.sh d :: rs)
  | fr {a : Addr} {d : D} {vs : List V} {rs : List Rs} : H a = none → O' a → ¬ Wn σ ρ' a → Ob g H' O' a d → (∀ (k : Nat) (f : D), rs[k]? = some (.fr f) → vs[k]? ≠ some (.ref a)) → RsL g H σ ρ' H' O' vs rs → RsL g H σ ρ' H' O' (.ref a :: vs) (.fr d :: rs)
def tRs (g : Gm) (W : WX) (f : Rho → Re (List Rs)) : TA := fun σ H Q => ∃ O ρ, StR g H O σ ρ ∧ RW W g σ ρ H O (f ρ) fun rs ρ' => ∀ vs H' O', Stp g σ ρ H O ρ' H' O' → RsL g H σ ρ' H' O' vs rs → Q vs H'
theorem RsL.base {H H1 H2 : Hp} {σ : St} {ρ2 : Rho} {O2 : AP1} (f : ∀ b, H1 b = none → H b = none) : ∀ {vs : List V} {rs : List Rs}, RsL g H1 σ ρ2 H2 O2 vs rs → RsL g H σ ρ2 H2 O2 vs rs
  | _, _, .nil => .nil
  | _, _, .sh r rs => .sh r (RsL.base f rs)
  | _, _, .fr n o w b d rs => .fr (f _ n) o w b d (RsL.base f rs)
theorem RsL.new {H1 H2 : Hp} {σ : St} {ρ2 : Rho} {O2 : AP1} : ∀ {vs : List V} {rs : List Rs} {k : Nat} {f : D} {a : Addr}, RsL g H1 σ ρ2 H2 O2 vs rs → rs[k]? = some (.fr f) → vs[k]? = some (.ref a) → H1 a = none
  | _, _, _, _, _, .nil, e, _ => by simp at e
  | _, _, 0, _, _, .sh _ _, e, _ => by simp at e
  | _, _, k + 1, _, _, .sh _ rs, e, h => RsL.new (k := k) rs (by simpa using e) (by simpa using h)
  | _, _, 0, _, _, .fr n _ _ _ _ _, e, h => by simp at h; subst h; exact n
  | _, _, k + 1, _, _, .fr _ _ _ _ _ rs, e, h => RsL.new (k := k) rs (by simpa using e) (by simpa using h)
theorem run_rs {β : Type} {K : β → Rho → Prop} {f : Rho → Re (List Rs)} {k : List Rs → Rho → Re β} {σ : St} {ρ : Rho} {H : Hp} {O : AP1} {Q : List V → Hp → Prop} (S : StR g H O σ ρ) (h : RW W g σ ρ H O ((f ρ).bd k) K)
    (next : ∀ ds ρ1 vs H1 O1, Stp g σ ρ H O ρ1 H1 O1 → RsL g H σ ρ1 H1 O1 vs ds → RW W g σ ρ1 H1 O1 (k ds ρ1) K → Q vs H1) : tRs g W f σ H Q :=
  ⟨O, ρ, S, (RW.bd h).imp fun r ρ1 h1 v H1 O1 s1 r1 => next r ρ1 v H1 O1 s1 r1 (h1.rebase s1)⟩
theorem pas_rs : ∀ {es : List Expr} {ss : List Sm}, Paired (AS g W X) es ss → PA X es (tRs g W (evRs ss))
  | [], _, .nil => paImp pa_nil fun σ H Q ⟨O, ρ, S, q⟩ => q [] H O (.refl S) .nil
  | e :: es, _, .cons h hs => by
    refine paImp (pa_cons h.es.v (pas_rs hs) (h.ns es _)) fun σ H Q ⟨O, ρ, S, q⟩ => ?_
    refine run_v S q fun r ρ1 v H1 O1 s1 rv q1 => run_rs s1.st q1 fun ds ρ2 vs H2 O2 s2 rvs q2 => ?_
    refine q2 (v :: vs) H2 O2 (s1.trans s2) ?_
    cases r with
    | sh d => exact .sh (s2.rd s1.st rv) (rvs.base s1.fr.there)
    | fr d =>
      obtain ⟨a, rfl, n, oa, nw, ob⟩ := rv
      have there : H1 a ≠ none := s1.st.obj a oa
      exact .fr n (s2.fr.o1 a oa nw) (fun z => nw (s2.sub a z)) (ob.fr s2.fr s1.st.wn nw) (fun k f e1 e2 => there (rvs.new e1 e2)) (rvs.base s1.fr.there)
def setVs : List Nat → List V → St → St
  | i :: is, v :: vs, σ => setVs is vs (σ.set i (some v))
  | _, _, σ => σ
theorem set_rss {H0 H : Hp} {O : AP1} : ∀ {is : List Nat} {vs : List V} {rs : List Rs} {σ : St} {ρ ρ1 : Rho}, SI g E H O σ ρ → (∀ b, H0 b = none → E.H0 b = none) → RsL g H0 σ ρ H O vs rs → setRss is rs ρ = some ρ1 → SI g E H O (setVs is vs σ) ρ1
  | [], _, _, _, _, _, S, _, .nil, e => by cases e; exact S
  | _ :: _, _, _, _, _, _, _, _, .nil, e => by cases e
  | [], _, _, _, _, _, _, _, .sh _ _, e => by cases e
  | [], _, _, _, _, _, _, _, .fr _ _ _ _ _ _, e => by cases e
  | i :: is, _, _, σ, ρ, ρ1, S, hb, .sh (v := v) (d := d) (vs := vs) (rs := rs) r h, e => by
    obtain ⟨ρ2, e1, e2⟩ := Option.bind_eq_some_iff.mp (show (setRs i (.sh d) ρ).bind (setRss is rs) = some ρ1 from e)
    obtain ⟨S1, w1⟩ := set_rs (v := v) S (show RsI g E σ ρ H O v (.sh d) from r) e1
    have w2 : ∀ b, Wn (σ.set i (some v)) ρ2 b → Wn σ ρ b := fun b z => (w1 b z).elim id fun ⟨_, _, q⟩ => by cases q
    show SI g E H O (setVs is vs (σ.set i (some v))) ρ1
    exact set_rss S1 hb (RsL.wn w2 h) e2
  | i :: is, _, _, σ, ρ, ρ1, S, hb, .fr (a := a) (d := d) (vs := vs) (rs := rs) n oa nw ob df h, e => by
    obtain ⟨ρ2, e1, e2⟩ := Option.bind_eq_some_iff.mp (show (setRs i (.fr d) ρ).bind (setRss is rs) = some ρ1 from e)
    obtain ⟨S1, w1⟩ := set_rs (v := .ref a) S (show RsI g E σ ρ H O (.ref a) (.fr d) from ⟨a, rfl, hb a n, oa, nw, ob⟩) e1
    show SI g E H O (setVs is vs (σ.set i (some (.ref a)))) ρ1
    exact set_rss S1 hb (RsL.wnF (fun b z => (w1 b z).imp id fun ⟨q, _⟩ => (V.ref.inj q).symm) df h) e2
where
  RsL.wn {σ σ' : St} {ρ ρ' : Rho} (w : ∀ b, Wn σ' ρ' b → Wn σ ρ b) : ∀ {vs : List V} {rs : List Rs}, RsL g H0 σ ρ H O vs rs → RsL g H0 σ' ρ' H O vs rs
    | _, _, .nil => .nil
    | _, _, .sh r h => .sh r (RsL.wn w h)
    | _, _, .fr n o nw b d h => .fr n o (fun z => nw (w _ z)) b d (RsL.wn w h)
  RsL.wnF {σ σ' : St} {ρ ρ' : Rho} {a : Addr} (w : ∀ b, Wn σ' ρ' b → Wn σ ρ b ∨ b = a) : ∀ {vs : List V} {rs : List Rs}, (∀ (k : Nat) (f : D), rs[k]? = some (.fr f) → vs[k]? ≠ some (.ref a)) → RsL g H0 σ ρ H O vs rs → RsL g H0 σ' ρ' H O vs rs
    | _, _, _, .nil => .nil
    | _, _, df, .sh r h => .sh r (RsL.wnF w (fun k f e => df (k + 1) f e) h)
    | _, _, df, .fr n o nw b d h => .fr n o (fun z => (w _ z).elim nw fun e => df 0 _ rfl (by rw [e]; rfl)) b d (RsL.wnF w (fun k f e => df (k + 1) f e) h)
end
end Wr
namespace Wr
open PySem PySem.Spec L2
open PyProof.Rows hiding St
section
variable {g : Gm} {σ : St} {ρ ρ1 : Rho} {H H1 : Hp} {O O1 : AP1}
theorem own_at {i : Nat} (S : StR g H O σ ρ) (h : ownL i ρ = true) : ∃ x, σ[i]? = some (some x) := by
  unfold ownL at h
  split at h
  · rename_i ds es
    obtain ⟨v, ev, r⟩ := S.get es
    cases r
    exact ⟨_, ev⟩
  · rename_i ds es
    obtain ⟨v, ev, r⟩ := S.get es
    cases r
    exact ⟨_, ev⟩
  · cases h
/-- the slot's list changed in place -/
theorem chg_stp {i : Nat} {f : List D → Option (List D)} (S : StR g H O σ ρ) (e : chg i f ρ = some ρ1) :
    ∃ a xs ds ys, σ[i]? = some (some (.ref a)) ∧ H a = some (.lst xs) ∧ RDs g H O xs ds ∧ f ds = some ys ∧ ∀ vs, RDs g H O vs ys → Stp g σ ρ H O ρ1 (upd H a (.lst vs)) O := by
  have main : ∀ (s t : Sl) (ds ys : List D), ρ[i]? = some s → s.own = true → t.own = true → (∀ a, SlR g H O (some (.ref a)) s → O a ∧ Ob g H O a (.lst ds)) → (∀ H' a, O a → Ob g H' O a (.lst ys) → SlR g H' O (some (.ref a)) t) → (∀ v, SlR g H O v s → ∃ a, v = some (.ref a)) → (∀ d, s = .io d → ∃ d', t = .io d') → f ds = some ys → ρ1 = ρ.set i t →
      ∃ a xs ds ys, σ[i]? = some (some (.ref a)) ∧ H a = some (.lst xs) ∧ RDs g H O xs ds ∧ f ds = some ys ∧ ∀ vs, RDs g H O vs ys → Stp g σ ρ H O ρ1 (upd H a (.lst vs)) O := by
    rintro s t ds ys es os ot gs gt gv gi ef rfl
    obtain ⟨v, ev, rv⟩ := S.get es
    obtain ⟨a, rfl⟩ := gv _ rv
    obtain ⟨oa, ob⟩ := gs a rv
    have hl : i < ρ.length := (List.getElem?_eq_some_iff.mp es).1
    cases ob with
    | lst ha rs =>
      rename_i xs
      refine ⟨a, xs, ds, ys, ev, ha, rs, ef, fun vs r => ?_⟩
      have wa : Wn σ ρ a := ⟨i, s, es, os, ev⟩
      have fr : Fr (fun b => b = a) H O (upd H a (.lst vs)) O := ⟨fun b o e _ n => by rw [upd_ne n]; exact e, fun P n t => tabs_upd ha (fun _ _ z => by cases z) n t, fun b e => by
        by_cases z : b = a
        · subst z; rw [upd_same] at e; cases e
        · rw [upd_ne z] at e; exact e, fun _ z _ => z, fun _ z => .inl z⟩
      have hW : ∀ b, b = a → O b := fun b z => z ▸ oa
      have out : ∀ {j : Nat} {u : Sl}, (ρ.set i t)[j]? = some u → (j = i ∧ u = t) ∨ (i ≠ j ∧ ρ[j]? = some u) := fun {j u} e => by
        by_cases hj : i = j
        · subst hj
          rw [List.getElem?_set_self hl] at e
          cases e
          exact .inl ⟨rfl, rfl⟩
        · rw [List.getElem?_set_ne hj] at e
          exact .inr ⟨hj, e⟩
      refine ⟨fr.mono fun b z => z ▸ wa, ⟨by rw [List.length_set]; exact S.len, fun j w u e1 e2 => ?_, fun j k u1 u2 b e1 o1 e2 o2 f1 f2 => ?_, fun b z => ?_, S.tabs.fr fr hW⟩, fun b ⟨j, u, e1, o1, e2⟩ => ?_, fun j d e1 => ?_⟩
      · rcases out e2 with ⟨rfl, rfl⟩ | ⟨hj, e3⟩
        · rw [ev] at e1
          cases e1
          exact gt _ a oa (.lst upd_same (r.fr fr hW))
        · have q := S.at_ j w u e1 e3
          cases q with
          | no => exact .no
          | sh q => exact .sh (q.fr fr hW)
          | @ow b d ob q =>
            have nb : ¬ b = a := fun z => hj (S.one i j s _ a es os e3 rfl ev (z ▸ e1))
            exact .ow ob (q.fr fr hW nb)
          | @io b d ob q =>
            have nb : ¬ b = a := fun z => hj (S.one i j s _ a es os e3 rfl ev (z ▸ e1))
            exact .io ob (q.fr fr hW nb)
      · have z1 : ∃ u, ρ[j]? = some u ∧ u.own = true := by
          rcases out e1 with ⟨rfl, rfl⟩ | ⟨_, e⟩
          · exact ⟨s, es, os⟩
          · exact ⟨u1, e, o1⟩
        have z2 : ∃ u, ρ[k]? = some u ∧ u.own = true := by
          rcases out e2 with ⟨rfl, rfl⟩ | ⟨_, e⟩
          · exact ⟨s, es, os⟩
          · exact ⟨u2, e, o2⟩
        obtain ⟨v1, p1, q1⟩ := z1
        obtain ⟨v2, p2, q2⟩ := z2
        exact S.one j k v1 v2 b p1 q1 p2 q2 f1 f2
      · by_cases hz : b = a
        · subst hz; rw [upd_same]; exact fun z => by cases z
        · rw [upd_ne hz]; exact S.obj b z
      · rcases out e1 with ⟨rfl, rfl⟩ | ⟨_, e⟩
        · exact ⟨j, s, es, os, e2⟩
        · exact ⟨j, u, e, o1, e2⟩
      · by_cases hj : i = j
        · subst hj
          rw [es] at e1
          cases e1
          obtain ⟨d', q⟩ := gi d rfl
          exact ⟨d', by rw [List.getElem?_set_self hl, q]⟩
        · exact ⟨d, by rw [List.getElem?_set_ne hj]; exact e1⟩
  unfold chg at e
  split at e
  · rename_i ds es
    obtain ⟨ys, ef, e'⟩ := Option.map_eq_some_iff.mp e
    exact main (.ow (.lst ds)) (.ow (.lst ys)) ds ys es rfl rfl (fun a h => by cases h with | ow o b => exact ⟨o, b⟩) (fun H' a o b => .ow o b) (fun v h => by cases h with | ow o b => exact ⟨_, rfl⟩) (fun d z => by cases z) ef e'.symm
  · rename_i ds es
    obtain ⟨ys, ef, e'⟩ := Option.map_eq_some_iff.mp e
    exact main (.io (.lst ds)) (.io (.lst ys)) ds ys es rfl rfl (fun a h => by cases h with | io o b => exact ⟨o, b⟩) (fun H' a o b => .io o b) (fun v h => by cases h with | io o b => exact ⟨_, rfl⟩) (fun d z => ⟨_, rfl⟩) ef e'.symm
  · cases e
end
section
variable {g : Gm} {σ : St} {ρ ρ1 : Rho} {H H1 : Hp} {O O1 : AP1}
theorem ownD_at {i : Nat} (S : StR g H O σ ρ) (h : ownD i ρ = true) : ∃ x, σ[i]? = some (some x) := by
  unfold ownD at h
  split at h <;> first
    | (rename_i ds es; obtain ⟨v, ev, r⟩ := S.get es; cases r; exact ⟨_, ev⟩)
    | cases h
/-- the slot's dict changed in place -/
theorem chgD_stp {i : Nat} {f : D → Option D} (S : StR g H O σ ρ) (e : chgD i f ρ = some ρ1) :
    ∃ a d d', σ[i]? = some (some (.ref a)) ∧ Ob g H O a d ∧ f d = some d' ∧ ∀ o, (Fr (fun b => b = a) H O (upd H a o) O → (∀ b, b = a → O b) → Ob g (upd H a o) O a d') → Stp g σ ρ H O ρ1 (upd H a o) O := by
  have main : ∀ (s t : Sl) (d d' : D), ρ[i]? = some s → s.own = true → t.own = true → (∀ a, SlR g H O (some (.ref a)) s → O a ∧ Ob g H O a d) → (∀ H' a, O a → Ob g H' O a d' → SlR g H' O (some (.ref a)) t) → (∀ v, SlR g H O v s → ∃ a, v = some (.ref a)) → (∀ d, s = .io d → ∃ d', t = .io d') → f d = some d' → ρ1 = ρ.set i t →
      ∃ a d d', σ[i]? = some (some (.ref a)) ∧ Ob g H O a d ∧ f d = some d' ∧ ∀ o, (Fr (fun b => b = a) H O (upd H a o) O → (∀ b, b = a → O b) → Ob g (upd H a o) O a d') → Stp g σ ρ H O ρ1 (upd H a o) O := by
    rintro s t d d' es os ot gs gt gv gi ef rfl
    obtain ⟨v, ev, rv⟩ := S.get es
    obtain ⟨a, rfl⟩ := gv _ rv
    obtain ⟨oa, ob⟩ := gs a rv
    have hl : i < ρ.length := (List.getElem?_eq_some_iff.mp es).1
    refine ⟨a, d, d', ev, ob, ef, fun o r => ?_⟩
    have wa : Wn σ ρ a := ⟨i, s, es, os, ev⟩
    obtain ⟨u0, hu0, nc0⟩ : ∃ u, H a = some u ∧ ∀ c q, u ≠ LamX.CodeO c q := by
      cases ob with
      | lst e _ => exact ⟨_, e, fun _ _ z => by cases z⟩
      | dct e _ => exact ⟨_, e, fun _ _ z => by cases z⟩
      | dtc e _ => exact ⟨_, e, fun _ _ z => by cases z⟩
    have fr : Fr (fun b => b = a) H O (upd H a o) O := ⟨fun b o e _ n => by rw [upd_ne n]; exact e, fun P n t => tabs_upd hu0 nc0 n t, fun b e => by
      by_cases z : b = a
      · subst z; rw [upd_same] at e; cases e
      · rw [upd_ne z] at e; exact e, fun _ z _ => z, fun _ z => .inl z⟩
    have hW : ∀ b, b = a → O b := fun b z => z ▸ oa
    have out : ∀ {j : Nat} {u : Sl}, (ρ.set i t)[j]? = some u → (j = i ∧ u = t) ∨ (i ≠ j ∧ ρ[j]? = some u) := fun {j u} e => by
      by_cases hj : i = j
      · subst hj
        rw [List.getElem?_set_self hl] at e
        cases e
        exact .inl ⟨rfl, rfl⟩
      · rw [List.getElem?_set_ne hj] at e
        exact .inr ⟨hj, e⟩
    refine ⟨fr.mono fun b z => z ▸ wa, ⟨by rw [List.length_set]; exact S.len, fun j w u e1 e2 => ?_, fun j k u1 u2 b e1 o1 e2 o2 f1 f2 => ?_, fun b z => ?_, S.tabs.fr fr hW⟩, fun b ⟨j, u, e1, o1, e2⟩ => ?_, fun j d e1 => ?_⟩
    · rcases out e2 with ⟨rfl, rfl⟩ | ⟨hj, e3⟩
      · rw [ev] at e1
        cases e1
        exact gt _ a oa (r fr hW)
      · have q := S.at_ j w u e1 e3
        cases q with
        | no => exact .no
        | sh q => exact .sh (q.fr fr hW)
        | @ow b d ob q =>
          have nb : ¬ b = a := fun z => hj (S.one i j s _ a es os e3 rfl ev (z ▸ e1))
          exact .ow ob (q.fr fr hW nb)
        | @io b d ob q =>
          have nb : ¬ b = a := fun z => hj (S.one i j s _ a es os e3 rfl ev (z ▸ e1))
          exact .io ob (q.fr fr hW nb)
    · have z1 : ∃ u, ρ[j]? = some u ∧ u.own = true := by
        rcases out e1 with ⟨rfl, rfl⟩ | ⟨_, e⟩
        · exact ⟨s, es, os⟩
        · exact ⟨u1, e, o1⟩
      have z2 : ∃ u, ρ[k]? = some u ∧ u.own = true := by
        rcases out e2 with ⟨rfl, rfl⟩ | ⟨_, e⟩
        · exact ⟨s, es, os⟩
        · exact ⟨u2, e, o2⟩
      obtain ⟨v1, p1, q1⟩ := z1
      obtain ⟨v2, p2, q2⟩ := z2
      exact S.one j k v1 v2 b p1 q1 p2 q2 f1 f2
    · by_cases hz : b = a
      · subst hz; rw [upd_same]; exact fun z => by cases z
      · rw [upd_ne hz]; exact S.obj b z
    · rcases out e1 with ⟨rfl, rfl⟩ | ⟨_, e⟩
      · exact ⟨j, s, es, os, e2⟩
      · exact ⟨j, u, e, o1, e2⟩
    · by_cases hj : i = j
      · subst hj
        rw [es] at e1
        cases e1
        obtain ⟨d', q⟩ := gi d rfl
        exact ⟨d', by rw [List.getElem?_set_self hl, q]⟩
      · exact ⟨d, by rw [List.getElem?_set_ne hj]; exact e1⟩
  unfold chgD at e
  split at e
  · rename_i d es
    obtain ⟨d', ef, e'⟩ := Option.map_eq_some_iff.mp e
    exact main (.ow d) (.ow d') d d' es rfl rfl (fun a h => by cases h with | ow o b => exact ⟨o, b⟩) (fun H' a o b => .ow o b) (fun v h => by cases h with | ow o b => exact ⟨_, rfl⟩) (fun d z => by cases z) ef e'.symm
  · rename_i d es
    obtain ⟨d', ef, e'⟩ := Option.map_eq_some_iff.mp e
    exact main (.io d) (.io d') d d' es rfl rfl (fun a h => by cases h with | io o b => exact ⟨o, b⟩) (fun H' a o b => .io o b) (fun v h => by cases h with | io o b => exact ⟨_, rfl⟩) (fun d z => ⟨_, rfl⟩) ef e'.symm
  · cases e
theorem RDk.length {xs : List (Key × V)} : ∀ {ds : List (Key × D)}, RDk g H O xs ds → xs.length = ds.length := by
  induction xs with
  | nil => intro ds h; cases h; rfl
  | cons p xs ih => intro ds h; cases h with | cons h hs => rw [List.length_cons, List.length_cons, ih hs]
theorem RDt.length {xs : List (List Key × V)} : ∀ {ds : List (List Key × D)}, RDt g H O xs ds → xs.length = ds.length := by
  induction xs with
  | nil => intro ds h; cases h; rfl
  | cons p xs ih => intro ds h; cases h with | cons h hs => rw [List.length_cons, List.length_cons, ih hs]
end
def rSetDp : TSet := fun x y v H Q => ∃ a H', x = .ref a ∧ DPut H a y v H' ∧ Q H'
theorem set_dict {X : Cx} (hu : X.A.units + 1 < cLine) : PSet X rSetDp := by
  intro pins s σ H o i v ov iv u Q I ro ri rv h
  obtain ⟨a, H', rfl, hp, q⟩ := h
  cases ro
  exact d_setItem hu I hp ri rv fun s' I' => ⟨H', I', q⟩
section
variable {g : Gm} {E : En} {W : WX} {X : Cx} {pos : Pos} {e c : Expr}
/-- name.pop() -/
theorem de_pop {i : Nat} {x : Str} {px pa pc : Pos} (hx : PE X (.Name x px) (tVar i)) (hl : (pa.endLine == pc.line) = true) : PE X (.Call (.Attribute (.Name x px) "pop" pa) [] [] pc) (tE g W (popV i)) := by
  refine peImp (pe_bm0 PySem.F.plainAttrs_list PySem.F.slot_list_pop PySem.F.type_list_pop mt_pop hx rfl hl) fun σ H Q ⟨O, ρ, S, q⟩ => ?_
  unfold popV at q
  split at q
  case isFalse => exact q.elim
  rename_i hown
  obtain ⟨b, ys, ds0, ev, hb, hr, hla⟩ : ∃ b ys ds0, σ[i]? = some (some (.ref b)) ∧ H b = some (.lst ys) ∧ RDs g H O ys ds0 ∧ lastAt i ρ = ds0[ds0.length - 1]? := by
    unfold ownL at hown
    split at hown
    · rename_i ds es
      obtain ⟨v, ev, r⟩ := S.get es
      cases r with | ow _ ob => cases ob with | lst h hs => exact ⟨_, _, ds, ev, h, hs, by unfold lastAt; rw [es]; rfl⟩
    · rename_i ds es
      obtain ⟨v, ev, r⟩ := S.get es
      cases r with | io _ ob => cases ob with | lst h hs => exact ⟨_, _, ds, ev, h, hs, by unfold lastAt; rw [es]; rfl⟩
    · cases hown
  split at q
  · rename_i y ρ1 ey e1
    obtain ⟨a, xs, ds, zs, ea, ha, rs, ef, stp⟩ := chg_stp S e1
    rw [ev] at ea
    cases ea
    rw [hb] at ha
    cases ha
    cases ef
    rw [hla] at ey
    obtain ⟨w, hw, rw'⟩ := hr.get ey
    have dl : RDs g H O ys.dropLast ds.dropLast := by
      rw [List.dropLast_eq_take, List.dropLast_eq_take, rs.len]
      exact rs.take _
    refine ⟨.ref b, ev, .inl ⟨rfl, _, .inl (.inl hb)⟩, b, ys, w, rfl, rfl, hb, by rw [hr.len]; exact hw, ?_⟩
    exact q _ _ _ (stp _ dl) ((stp _ dl).rd S rw')
  · exact q.elim
/-- name[k] = e of a dict -/
theorem ds_setd (C : CtxOk g X) {i : Nat} {x : Str} {px ps : Pos} {k : Expr} {sk s : Sm} (hx : PE X (.Name x px) (tVar i)) (hk : PE X k (tE g W sk.v)) (he : PE X e (tE g W s.v))
    (hs : swapsWithSole [.Subscript (.Name x px) k ps] e pos.line X.env = pure false) (hw : swappedStores [.Subscript (.Name x px) k ps] e X.env = pure none)
    (h1 : (assignEach [.Subscript (.Name x px) k ps] X.env).map (·.2) = [assign (.Subscript (.Name x px) k ps) X.env])
    (ha : ∀ v, assign (.Subscript (.Name x px) k ps) X.env v = (do
      let ov ← holding [v] (eval (.Name x px) X.env)
      let iv ← holding [v, ov] (eval k X.env)
      standAt ps
      holding [v, ov, iv] (setItem ov iv v)
      release [v, ov, iv] [])) : PS X (.Assign [.Subscript (.Name x px) k ps] e pos) (tS g W E (setdV i sk s)) := by
  refine psImp (ps_asg he (pg_sub hx hk (set_dict (by have := C.un; omega)) ha) hs hw h1) fun D σ H ⟨O, ρ, S, q⟩ => ?_
  refine ⟨O, ρ, S.st, (so_rw S q).imp fun r ρ1 q1 v H1 O1 s1 rv => ?_⟩
  obtain ⟨O2, s2, r2⟩ := rv.share S.st s1
  have S2 := S.step s2
  split at q1
  case isFalse => exact q1.elim
  rename_i hown
  have main : RW W g σ ρ1 H1 O2 (sk.v ρ1) fun p ρ2 => SO g W E (match chgD i (putDD p.d r.d) ρ2 with
      | some ρ3 => .ok .nx ρ3
      | none => .st) D := so_rw S2 q1
  obtain ⟨x, ex⟩ := ownD_at s2.st hown
  refine ⟨x, ex, O2, ρ1, s2.st, main.imp fun p ρ2 q2 w H2 O3 s3 rw => ?_⟩
  split at q2
  · rename_i ρ3 e3
    obtain ⟨O4, s4, r4⟩ := rw.share s2.st s3
    obtain ⟨a, d, d', ea, ob, ef, stp⟩ := chgD_stp s4.st e3
    rw [ex] at ea
    cases ea
    have rr := s4.rd s2.st r2
    unfold putDD at ef
    split at ef
    · rename_i kvs
      split at ef
      · rename_i hz
        obtain ⟨k, ek, rfl⟩ := Option.map_eq_some_iff.mp ef
        cases ob with
        | dct hX hs =>
          have ey := key1_rel r4 ek
          subst ey
          refine ⟨a, _, rfl, DPut.k hX (by rw [hs.length, ← sizeL_eq]; exact hz), q2 σ _ O4 ((S2.step s4).step (stp _ fun f hD => .dct upd_same ((put_rel rr hs).fr f hD)))⟩
      · cases ef
    · rename_i kvs
      split at ef
      · rename_i ds ed
        split at ef
        · rename_i hz
          obtain ⟨k, ek, rfl⟩ := Option.map_eq_some_iff.mp ef
          cases ob with
          | dtc hX hs =>
            rw [ed] at r4
            obtain ⟨b, rfl, hb⟩ := key_rel r4 ek
            refine ⟨a, _, rfl, DPut.t hX hb (by rw [hs.length, ← sizeL_eq]; exact hz), q2 σ _ O4 ((S2.step s4).step (stp _ fun f hD => .dtc upd_same ((putT_rel rr hs).fr f hD)))⟩
        · cases ef
      · cases ef
    · cases ef
  · exact q2.elim
end
section
variable {g : Gm} {E : En} {W : WX} {X : Cx} {pos : Pos} {e c : Expr}
/-- name[k] = e -/
theorem ds_seti (C : CtxOk g X) {i : Nat} {x : Str} {px ps : Pos} {k : Expr} {sk s : Sm} (hx : PE X (.Name x px) (tVar i)) (hk : PE X k (tE g W sk.v)) (he : PE X e (tE g W s.v))
    (hs : swapsWithSole [.Subscript (.Name x px) k ps] e pos.line X.env = pure false) (hw : swappedStores [.Subscript (.Name x px) k ps] e X.env = pure none)
    (h1 : (assignEach [.Subscript (.Name x px) k ps] X.env).map (·.2) = [assign (.Subscript (.Name x px) k ps) X.env])
    (ha : ∀ v, assign (.Subscript (.Name x px) k ps) X.env v = (do
      let ov ← holding [v] (eval (.Name x px) X.env)
      let iv ← holding [v, ov] (eval k X.env)
      standAt ps
      holding [v, ov, iv] (setItem ov iv v)
      release [v, ov, iv] [])) : PS X (.Assign [.Subscript (.Name x px) k ps] e pos) (tS g W E (setiV i sk s)) := by
  refine psImp (ps_asg he (pg_sub hx hk set_list ha) hs hw h1) fun D σ H ⟨O, ρ, S, q⟩ => ?_
  refine ⟨O, ρ, S.st, (so_rw S q).imp fun r ρ1 q1 v H1 O1 s1 rv => ?_⟩
  obtain ⟨O2, s2, r2⟩ := rv.share S.st s1
  have S2 := S.step s2
  split at q1
  case isFalse => exact q1.elim
  rename_i hown
  have main : RW W g σ ρ1 H1 O2 (sk.v ρ1) fun p ρ2 => SO g W E (match p.d with
      | .int j => (match chg i (fun xs => (ixN xs.length j).map fun n => xs.set n r.d) ρ2 with
        | some ρ3 => .ok .nx ρ3
        | none => .st)
      | _ => .st) D := so_rw S2 q1
  obtain ⟨x, ex⟩ := own_at s2.st hown
  refine ⟨x, ex, O2, ρ1, s2.st, main.imp fun p ρ2 q2 w H2 O3 s3 rw => ?_⟩
  split at q2
  · rename_i j ej
    split at q2
    · rename_i ρ3 e3
      have s3' := s3
      obtain ⟨O4, s4, r4⟩ := rw.share s2.st s3
      rw [ej] at r4
      cases r4
      obtain ⟨a, xs, ds, ys, ea, ha, rs, ef, stp⟩ := chg_stp s4.st e3
      rw [ex] at ea
      cases ea
      obtain ⟨n, en, rfl⟩ := Option.map_eq_some_iff.mp ef
      exact ⟨a, xs, j, n, rfl, rfl, ha, by rw [rs.len]; exact en, q2 σ _ O4 ((S2.step s4).step (stp _ (rs.set n (s4.rd s2.st r2))))⟩
    · exact q2.elim
  · exact q2.elim
/-- an expression alone -/
theorem ds_exp {s : Sm} (he : PE X e (tE g W s.v)) (hs : swapsWith e none pos.line X.env = pure false) : PS X (.Expr e pos) (tS g W E fun ρ => (s.v ρ).bd fun _ ρ1 => .ok .nx ρ1) := by
  refine psImp (ps_expr he hs) fun D σ H ⟨O, ρ, S, q⟩ => ?_
  refine ⟨O, ρ, S.st, (so_rw S q).imp fun r ρ1 q1 v H1 O1 s1 rv => ?_⟩
  exact q1 σ H1 O1 (S.step s1)
theorem ds_if {s : Sm} {a b : List Stmt} {fa fb : Rho → Re Out} (hc : PT X c (tQ g W s.t)) (ha : PSs X a (tS g W E fa)) (hb : PSs X b (tS g W E fb)) :
    PS X (.If c a b pos) (tS g W E fun ρ => (s.t ρ).bd fun t ρ1 => if t = true then fa ρ1 else fb ρ1) := by
  refine psImp (ps_if hc ha hb) fun D σ H ⟨O, ρ, S, q⟩ => ?_
  refine ⟨O, ρ, S.st, (so_rw S q).imp fun t ρ1 q1 H1 O1 s1 => ?_⟩
  cases t with
  | true => exact ⟨O1, ρ1, S.step s1, q1⟩
  | false => exact ⟨O1, ρ1, S.step s1, q1⟩
theorem rtf_of {σ : St} {ρ ρ' : Rho} {H H' : Hp} {O O' : AP1} {v : V} {r : Rs} (S : SI g E H O σ ρ) (h : RtR g H σ ρ ρ' H' O' v r) : RtF g E σ ρ' H' O' v r := by
  cases r with
  | sh d => exact h
  | fr d =>
    obtain ⟨a, e, o, n, b, z⟩ := h
    refine ⟨a, e, o, n, b, z.elim (fun z => .inl (S.fr.there a z)) fun ⟨i, d, e1, e2⟩ => ?_⟩
    exact (S.wn a ⟨i, _, e1, rfl, e2⟩).symm
theorem ds_ret {f : Rho → Re Rs} (he : PE X e (tRt g W f)) : PS X (.Return (some e) pos) (tS g W E fun ρ => (f ρ).bd fun r ρ1 => .ok (.rt r) ρ1) := by
  refine psImp (ps_ret he) fun D σ H ⟨O, ρ, S, q⟩ => ?_
  refine ⟨O, ρ, S.st, (so_rw S q).imp fun r ρ1 q1 v H1 O1 s1 rv => ?_⟩
  exact q1 v σ H1 O1 (S.step s1) (rtf_of S rv)
theorem ds_retN : PS X (.Return none pos) (tS g W E fun ρ => .ok (.rt (.sh .non)) ρ) :=
  psImp ps_retN fun D σ H ⟨O, ρ, S, q⟩ => q .non σ H O S .non
theorem ds_pass : PS X (.Pass pos) (tS g W E fun ρ => .ok .nx ρ) := psImp ps_pass fun D σ H ⟨O, ρ, S, q⟩ => q σ H O S
theorem ds_brk : PS X (.Break pos) (tS g W E fun ρ => .ok .bk ρ) := psImp ps_break fun D σ H ⟨O, ρ, S, q⟩ => q σ H O S
theorem ds_cnt : PS X (.Continue pos) (tS g W E fun ρ => .ok .ct ρ) := psImp ps_continue fun D σ H ⟨O, ρ, S, q⟩ => q σ H O S
theorem ds_doc {x j p1 p2} : PS X (.Expr (.Constant (.str x) j p1) p2) (tS g W E fun ρ => .ok .nx ρ) := psImp ps_doc fun D σ H ⟨O, ρ, S, q⟩ => q σ H O S
theorem ds_nev {st : Stmt} : PS X st (tS g W E fun _ => .st) := psImp ps_never fun D σ H ⟨O, ρ, S, q⟩ => q
theorem dss_nil : PSs X [] (tS g W E fun ρ => .ok .nx ρ) := pssImp pss_nil fun D σ H ⟨O, ρ, S, q⟩ => q σ H O S
theorem dss_cons {st : Stmt} {rest : List Stmt} {fa fb : Rho → Re Out} (ha : PS X st (tS g W E fa)) (hb : PSs X rest (tS g W E fb)) :
    PSs X (st :: rest) (tS g W E fun ρ => (fa ρ).bd fun o ρ1 => match o with
      | .nx => fb ρ1
      | o => .ok o ρ1) := by
  refine pssImp (pss_cons ha hb) fun D σ H ⟨O, ρ, S, q⟩ => ?_
  refine ⟨O, ρ, S, ?_⟩
  cases r : fa ρ with
  | ok o ρ1 =>
    simp only [r, Re.bd] at q
    cases o with
    | nx => exact fun σ' H' O' S' => ⟨O', ρ1, S', q⟩
    | bk => exact q
    | ct => exact q
    | rt v => exact q
  | ex x ρ1 =>
    simp only [r, Re.bd] at q
    exact q
  | st =>
    simp only [r, Re.bd] at q
    exact q
/-- what a turn of a loop does at its entry -/
theorem SO.turn {r : Re Out} {D : Ends} {σ1 : St} {ρ1 : Rho} {H1 : Hp} {O1 : AP1} (S : SI g E H1 O1 σ1 ρ1) (h : SO g W E r D)
    (hr : ∀ v σ' H' O' ρ' d, r = .ok (.rt d) ρ' → RtF g ⟨H1, O1, Wn σ1 ρ1, E.ios⟩ σ' ρ' H' O' v d → RtF g E σ' ρ' H' O' v d) : SO g W ⟨H1, O1, Wn σ1 ρ1, E.ios⟩ r D := by
  cases r with
  | ok o ρ' =>
    cases o with
    | nx => exact fun σ' H' O' T => h σ' H' O' (S.comp T)
    | bk => exact fun σ' H' O' T => h σ' H' O' (S.comp T)
    | ct => exact fun σ' H' O' T => h σ' H' O' (S.comp T)
    | rt d => exact fun v σ' H' O' T z => h v σ' H' O' (S.comp T) (hr v σ' H' O' ρ' d rfl z)
  | ex x ρ' => exact fun c dx σ' H' O' T z => h c dx σ' H' O' (S.comp T) z
  | st => exact h
theorem RtF.comp {σ σ1 : St} {ρ ρ1 : Rho} {H H1 : Hp} {O O1 : AP1} {v : V} {d : Rs} (S : SI g E H1 O1 σ1 ρ1) (h : RtF g ⟨H1, O1, Wn σ1 ρ1, E.ios⟩ σ ρ H O v d) : RtF g E σ ρ H O v d := by
  cases d with
  | sh d => exact h
  | fr d =>
    obtain ⟨a, e, o, n, b, z⟩ := h
    exact ⟨a, e, o, n, b, z.elim (fun z => .inl (S.fr.there a z)) fun z => (S.wn a z).symm⟩
end
end Wr
namespace HT
open PySem PySem.Spec PyProof.Rows
section
variable {prog : Program} {w : World} {A : Around} {E : Value → Shared → Prop} {s : Shared}
theorem adjust_rev (n : Nat) : Builtin.Slice.sliceAdjust none none (-1) (n : Int) = ((n : Int) - 1, -1) := rfl
theorem places_rev (n : Nat) : Builtin.Slice.slicePlaces ((n : Int) - 1) (-1) (-1) = n := by
  unfold Builtin.Slice.slicePlaces
  rw [if_neg (by decide)]
  by_cases h : (n : Int) - 1 > -1
  · rw [if_pos h, show (-(-1 : Int)) = 1 from rfl, Int.ediv_one]
    omega
  · rw [if_neg h]
    omega
theorem sliceApplied_rev {sl : Addr} {vl vu vs : Value} {n : Nat} {Q : Int × Int × Nat → Shared → Prop} (hs : s.heap.IsSliceOf sl vl vu vs) (pl : IsPart vl none) (pu : IsPart vu none) (ps : IsPart vs (some (-1)))
    (h : Q ((n : Int) - 1, -1, n) s) : wpAny (model prog w) A (Builtin.Slice.sliceApplied (.ref sl) (pure (n : Int))) Q E s := by
  obtain ⟨os, hos, hcs, hds⟩ := id hs
  unfold Builtin.Slice.sliceApplied Builtin.Slice.sliceFields
  refine wpAny_bind (wpAny_bind (wpAny_field hos hds (x := vl) rfl (wpAny_bind (wpAny_field hos hds (x := vu) rfl (wpAny_bind (wpAny_field hos hds (x := vs) rfl (wpAny_pure ?_)))))))
  refine wpAny_bind (slicePart_ ps ?_)
  show wpAny _ _ (if ((-1 : Int) == 0) = true then _ else _) _ _ s
  rw [if_neg (by decide)]
  refine wpAny_bind (slicePart_ pl (wpAny_bind (slicePart_ pu (wpAny_bind (wpAny_pure ?_)))))
  show wpAny _ _ (match Builtin.Slice.sliceAdjust none none (-1) (n : Int) with | (lo, hi) => pure (lo, (-1 : Int), Builtin.Slice.slicePlaces lo hi (-1))) _ _ s
  rw [adjust_rev n]
  show wpAny _ _ (pure ((n : Int) - 1, (-1 : Int), Builtin.Slice.slicePlaces ((n : Int) - 1) (-1) (-1))) _ _ s
  rw [places_rev]
  exact wpAny_pure h
theorem pick_rev (xs : List Value) : ((List.range xs.length).filterMap fun (m : Nat) => xs.toArray[((xs.length : Int) - 1 + (m : Int) * (-1)).toNat]?) = xs.reverse := by
  have e : (List.range xs.length).map (fun (m : Nat) => xs.toArray[((xs.length : Int) - 1 + (m : Int) * (-1)).toNat]?) = xs.reverse.map some := by
    refine List.ext_getElem? fun k => ?_
    rw [List.getElem?_map, List.getElem?_map]
    by_cases h : k < xs.length
    · rw [List.getElem?_range h, List.getElem?_reverse h]
      have h2 : xs.length - 1 - k < xs.length := by omega
      rw [List.getElem?_eq_getElem h2]
      show some (xs.toArray[((xs.length : Int) - 1 + (k : Int) * (-1)).toNat]?) = _
      rw [show ((xs.length : Int) - 1 + (k : Int) * (-1)).toNat = xs.length - 1 - k by omega, List.getElem?_toArray, List.getElem?_eq_getElem h2]
      rfl
    · rw [List.getElem?_eq_none_iff.mpr (by rw [List.length_range]; omega), List.getElem?_eq_none_iff.mpr (by rw [List.length_reverse]; omega)]
      rfl
  have := congrArg (List.filterMap id) e
  rw [List.filterMap_map, List.filterMap_map] at this
  refine Eq.trans this ?_
  show List.filterMap some xs.reverse = _
  exact List.filterMap_some
theorem getItem_tuple_rev {t sl : Addr} {items : List Value} {vl vu vs : Value} {Q : Value → Shared → Prop} (ht : IsTup s.heap t items.toArray) (hs : s.heap.IsSliceOf sl vl vu vs) (pl : IsPart vl none) (pu : IsPart vu none) (ps : IsPart vs (some (-1)))
    (h : Q (.ref s.heap.objs.size) { s with heap := s.heap.push { cls := .type "tuple", data := .seq items.reverse.toArray } })
    (hsz : items.length ≤ sizeLine) : wpAny (model prog w) A (getItem (.ref t) (.ref sl)) Q E s := by
  have htake : sizeOk (.seq items.reverse.toArray) := by
    show items.reverse.toArray.size ≤ sizeLine
    rw [List.size_toArray, List.length_reverse]
    exact hsz
  obtain ⟨os, hos, hcs, hds⟩ := id hs
  have hTs : s.TypeIs (.ref sl) "slice" := ⟨os, hos, hcs⟩
  unfold getItem
  try with_reducible refine wpAny_holding ?_
  first | refine wpAny_bind (wpAny_pure ?_) | skip
  refine wpAny_bind (wpAny_sequenceKey ht.typeIs (by decide) ?_)
  refine wpAny_bind (wpAny_callSpecial?_slot (name := Str.ofString "__getitem__") ht.typeIs PyProof.Rows.slot_tuple_getitem
    (wpAny_call_entry PyProof.Rows.slot_tuple_getitem ht.typeIs entry_tuple_getitem ?_ (args_tuple_getitem _ _)))
  show wpAny _ _ (Builtin.Tuple.tupleItemsOf (.ref t) >>= _) _ _ s
  refine wpAny_bind (tupleItemsOf_ ht ?_)
  refine wpAny_bind (wpAny_typeOf hTs ?_)
  rw [if_pos (by decide)]
  refine wpAny_bind (sliceApplied_rev (n := items.toArray.size) hs pl pu ps ?_)
  show wpAny _ _ (if (((items.toArray.size : Int) - 1) == 0 && (-1 : Int) == 1 && items.toArray.size == items.toArray.size) = true then _ else _) _ _ s
  rw [if_neg (by rw [show ((-1 : Int) == 1) = false from rfl, Bool.and_false, Bool.false_and]; exact Bool.false_ne_true)]
  have pk : ((List.range items.toArray.size).filterMap fun (m : Nat) => items.toArray[((items.toArray.size : Int) - 1 + (m : Int) * (-1)).toNat]?) = items.reverse := pick_rev items
  rw [pk]
  first
    | exact wpAny_bind (m := Builtin.Tuple.tupleExact _) (wpAny_newObj_type (wpAny_pure ⟨_, rfl, wpAny_pure h⟩) htake)
    | exact wpAny_bind (m := Builtin.Tuple.tupleExact _) (wpAny_newObj_type (wpAny_bind (wpAny_pure (wpAny_pure ⟨_, rfl, wpAny_pure h⟩))) htake)
    | exact wpAny_bind (wpAny_bind (m := Builtin.Tuple.tupleExact _) (wpAny_newObj_type (wpAny_pure (wpAny_pure ⟨_, rfl, wpAny_pure h⟩)) htake))
    | exact wpAny_bind (wpAny_bind (m := Builtin.Tuple.tupleExact _) (wpAny_newObj_type (wpAny_pure ⟨_, rfl, wpAny_pure h⟩) htake))
end
end HT
namespace Wr
open PySem PySem.Spec L2
open PyProof.Rows hiding St
section
variable {X : Cx} {pos : Pos}
/-- a, .., *r: the items ahead, the others in a new list -/
def gStar (K : PySem.W.Frag) (n : Nat) (t : TGs) : TG := fun v σ H Q => ∃ a xs, v = .ref a ∧ (SqL K H a xs ∨ SqT K H a xs) ∧ n ≤ xs.length ∧ xs.length ≤ 10000 ∧ ∀ d, H d = none → t (xs.take n ++ [.ref d]) σ (upd H d (.lst (xs.drop n))) Q
/-- items taken from an iterator, the others collected -/
theorem unpack_star {pins : List (Addr × Obj)} {σ : St} {H : Hp} {s : Shared} {a : Addr} {xs : List V} {n : Nat} {Q : List Value → Shared → Prop} (I : Inv X pins σ H s) (hc : X.A.handled = none) (hs : SqL X.K H a xs ∨ SqT X.K H a xs) (hn : n ≤ xs.length) (hz : xs.length ≤ 10000)
    (h : ∀ d us s', H d = none → Inv X pins σ (upd H d (.lst (xs.drop n))) s' → Vals (xs.take n ++ [V.ref d]) us → Q us s') :
    wpAny (model X.prog X.w) X.A (unpackItems (.ref a) (n + 1) (some n)) Q X.xe s := by
  have fin : ∀ (its : List Value) (h₂ : Heap) (tk : Nat), Vals xs its → (∀ b o, s.heap.get? b = some o → h₂.get? b = some o) →
      wpAny (model X.prog X.w) X.A (newList ((its.drop n).take ((its.drop n).length - (n + 1 - 1 - n))) >>= fun d => pure (its.take n ++ [d] ++ (its.drop n).drop ((its.drop n).length - (n + 1 - 1 - n)))) Q X.xe { s with heap := h₂, toks := tk } := fun its h₂ tk rv kp => by
    have e0 : n + 1 - 1 - n = 0 := by omega
    rw [e0, Nat.sub_zero, List.take_length, List.drop_length]
    have I2 : Inv X pins σ H { s with heap := h₂, toks := tk } := I.kept kp
    have hf : H h₂.objs.size = none := I2.hok.fresh (Nat.le_refl _)
    have rd : Vals (xs.drop n) (its.drop n) := rv.drop n
    have rt : Vals (xs.take n) (its.take n) := rv.take n
    have hlen : (its.drop n).length ≤ sizeLine := by
      have := rd.length
      rw [← this, List.length_drop, sizeLine_eq]
      omega
    refine wpAny_bind (wpAny_newList (wpAny_pure ?_) hlen)
    rw [List.append_nil]
    exact h h₂.objs.size _ _ hf (I2.laid (t' := tk) (fun b u e => Heap.get?_push_of_some _ e) (Nat.le_refl _) ⟨by rw [rd.length]; exact hlen, _, 0, rd, Heap.get?_push_size _ rfl⟩) (rt.append (.cons rfl .nil))
  rcases hs with hs | hs
  · obtain ⟨its, rv, pl, hz2⟩ := I.list hs
    have hl : s.heap.IsList a its.toArray := pl.isList
    have lenI : its.toArray.size = xs.length := by rw [List.size_toArray, rv.length]
    have hlt : a ≠ s.heap.objs.size := by obtain ⟨o, ho, _⟩ := id hl; exact Nat.ne_of_lt (Heap.lt_size ho)
    unfold unpackItems; refine wpAny_bind ?_
    unfold notIterableAtAll; refine wpAny_bind (wpAny_specialOf hl.typeIs slot_list_iter.lookup (wpAny_pure ?_))
    rw [if_neg Bool.false_ne_true]
    refine wpAny_bind (wpAny_holding (wpAny_pyIter_list hl (wpAny_bind (wpAny_holding (PySem.W.kun_draw hlt n 0 _ _ ⟨_, Heap.get?_push_size _ rfl, rfl, rfl⟩ (hl.push _) (by omega) fun h₁ it₁ hs₁ => ?_)))))
    have hl₁ : h₁.IsList a its.toArray := (hl.push _).extBut hs₁.extBut hlt
    rw [Nat.zero_add] at it₁
    obtain ⟨oi, hoi, _⟩ := id it₁
    obtain ⟨ol, hol, _⟩ := id hl₁
    rw [List.drop_zero]
    have hfl : (its.toArray.toList.take n).length = n := by rw [List.length_take, Array.length_toList, lenI]; omega
    rw [if_neg (show ¬ ((its.toArray.toList.take n).length < n) by omega)]
    refine wpAny_bind (wpAny_holding (PySem.W.kun_collect (s := { s with heap := h₁ }) (T := "list_iterator") (.inr (.inr (.inl rfl))) (Walks.list (A := X.A.in1) hc s.heap.objs.size a hlt its.toArray) (fun j u st => st.1.typeIs) (k := n) (by omega) ⟨it₁, hl₁⟩ (Heap.lt_size hoi) (Heap.lt_size hol)
      (fun h₂ tk hk => ?_) (by rw [lenI, sizeLine_eq]; omega)))
    show wpAny _ _ (if (its.drop n).length < n + 1 - 1 - n then _ else _) _ _ _
    rw [if_neg (by omega)]
    exact fin its h₂ tk rv fun b o e => hk b o (Nat.ne_of_lt (Heap.lt_size e)) (hs₁.extBut b o (Nat.ne_of_lt (Heap.lt_size e)) (Heap.get?_push_of_some _ e))
  · obtain ⟨its, rv, hl, hz2⟩ := I.tuple hs
    have lenI : its.toArray.size = xs.length := by rw [List.size_toArray, rv.length]
    have hlt : a ≠ s.heap.objs.size := by obtain ⟨o, ho, _⟩ := id hl; exact Nat.ne_of_lt (Heap.lt_size ho)
    unfold unpackItems; refine wpAny_bind ?_
    unfold notIterableAtAll; refine wpAny_bind (wpAny_specialOf hl.typeIs slot_tuple_iter.lookup (wpAny_pure ?_))
    rw [if_neg Bool.false_ne_true]
    refine wpAny_bind (wpAny_holding (iter_tuple hl (wpAny_bind (wpAny_holding (draw_tuple hlt n 0 _ _ ⟨_, Heap.get?_push_size _ rfl, rfl, rfl⟩ (hl.push _) (by omega) fun h₁ it₁ hs₁ => ?_)))))
    have hl₁ : IsTup h₁ a its.toArray := (hl.push _).extBut hs₁.extBut hlt
    rw [Nat.zero_add] at it₁
    obtain ⟨oi, hoi, _⟩ := id it₁
    obtain ⟨ol, hol, _⟩ := id hl₁
    rw [List.drop_zero]
    have hfl : (its.toArray.toList.take n).length = n := by rw [List.length_take, Array.length_toList, lenI]; omega
    rw [if_neg (show ¬ ((its.toArray.toList.take n).length < n) by omega)]
    refine wpAny_bind (wpAny_holding (PySem.W.kun_collect (s := { s with heap := h₁ }) (T := "tuple_iterator") (.inr (.inr (.inr rfl))) (Walks.tuple (A := X.A.in1) hc s.heap.objs.size a hlt its.toArray) (fun j u st => st.1.typeIs) (k := n) (by omega) ⟨it₁, hl₁⟩ (Heap.lt_size hoi) (Heap.lt_size hol)
      (fun h₂ tk hk => ?_) (by rw [lenI, sizeLine_eq]; omega)))
    show wpAny _ _ (if (its.drop n).length < n + 1 - 1 - n then _ else _) _ _ _
    rw [if_neg (by omega)]
    exact fin its h₂ tk rv fun b o e => hk b o (Nat.ne_of_lt (Heap.lt_size e)) (hs₁.extBut b o (Nat.ne_of_lt (Heap.lt_size e)) (Heap.get?_push_of_some _ e))
theorem pg_star {es : List Expr} {k n : Nat} {t : TGs} (hc : X.calm = true) (h : PGs X es t) (hn : (assignEach es X.env).length = n + 1) (hst : (assignEach es X.env).findIdx? (·.1) = some n) : PG X (.Tuple es k pos) (gStar X.K n t) := by
  refine ⟨fun pins s σ H v u Q I r hw => ?_⟩
  obtain ⟨a, xs, rfl, hs, h1, h2, hw⟩ := hw
  cases r
  rw [assign_Tuple]
  refine wpAny_bind (wpAny_standAt ?_)
  unfold unpack
  rw [hn, hst]
  refine wpAny_bind (wpAny_holding (unpack_star I (I.ok.hd hc) hs h1 h2 fun d us s' hd I1 rv => ?_))
  exact h.run pins s' σ _ _ us Q I1 rv (hw d hd)
theorem pgs_star {e : Expr} {t : TG} {p : Pos} (h : PG X e t) : PGs X [.Starred e p] (gCons t gNil) := by
  refine ⟨fun pins s σ H vs us Q I r hw => ?_⟩
  obtain ⟨v, vr, rfl, hw⟩ := hw
  cases r with
  | cons r rr =>
    show wpAny _ _ (assignInOrder [assign e X.env] _) _ _ _
    refine assignInOrder_cons (thn (h.run pins s σ H _ _ _ I r hw) fun _ s1 ⟨σ1, H1, I1, q1⟩ => ?_)
    exact pgs_nil.run pins s1 σ1 H1 _ _ Q I1 rr q1
end
section
variable {g : Gm} {E : En} {W : WX} {X : Cx} {pos : Pos} {e : Expr}
/-- the targets ahead, then the one with the star -/
def gSt : List Nat → Nat → TGs
  | [], j => gCons (gName j) gNil
  | i :: is, j => gCons (gName i) (gSt is j)
theorem gSt_of {H : Hp} {O : AP1} {j : Nat} {w : V} : ∀ {is : List Nat} {vs : List V} {ds : List Wr.D} {σ : St} {ρ ρ1 : Rho} {Q : St → Hp → Prop}, StR g H O σ ρ → RDs g H O vs ds → setShs is ds ρ = some ρ1 → (∀ σ1, Bnd g H O is σ ρ σ1 ρ1 → Q (σ1.set j (some w)) H) → gSt is j (vs ++ [w]) σ H Q
  | [], _, _, _, _, _, _, S, .nil, h, q => by cases h; exact ⟨w, [], rfl, rfl, q _ (.refl S)⟩
  | i :: is, _, _, σ, ρ, ρ1, Q, S, .cons (v := v) (vs := vs) (d := d) (ds := ds) r rs, h, q => by
    obtain ⟨ρ2, e1, e2⟩ := Option.bind_eq_some_iff.mp (show (setSh i d ρ).bind (setShs is ds) = some ρ1 from h)
    have b1 := bnd_sh S r e1
    refine ⟨v, vs ++ [w], rfl, gSt_of b1.st rs e2 fun σ1 b2 => q σ1 ?_⟩
    exact (b1.mono fun k hk => by simp at hk; simp [hk]).trans (b2.mono fun k hk => List.mem_cons_of_mem _ hk)
  | [], _, _, _, _, _, _, _, .cons _ _, h, _ => by cases h
  | _ :: _, _, _, _, _, _, _, _, .nil, h, _ => by cases h
theorem ds_asgS (C : CtxOk g X) {tg : Expr} {is : List Nat} {j : Nat} {s : Sm} (he : PE X e (tE g W s.v)) (hg : PG X tg (gStar X.K is.length (gSt is j))) (hs : swapsWithSole [tg] e pos.line X.env = pure false) (hw : swappedStores [tg] e X.env = pure none)
    (h1 : (assignEach [tg] X.env).map (·.2) = [assign tg X.env]) : PS X (.Assign [tg] e pos) (tS g W E (asgSV is j s)) := by
  refine psImp (ps_asg he hg hs hw h1) fun D σ H ⟨O, ρ, S, q⟩ => ?_
  refine ⟨O, ρ, S.st, (so_rw S q).imp fun r ρ1 q1 v H1 O1 s1 rv => ?_⟩
  obtain ⟨O2, s2, r2⟩ := rv.share S.st s1
  split at q1
  case h_2 => exact q1.elim
  rename_i ds ed
  split at q1
  case isFalse => exact q1.elim
  rename_i hl
  split at q1
  case h_2 => exact q1.elim
  rename_i ρ3 e3
  obtain ⟨ρ2, e1, e2⟩ := Option.bind_eq_some_iff.mp e3
  have S2 := S.step s2
  have key : ∃ a xs, v = .ref a ∧ (SqL X.K H1 a xs ∨ SqT X.K H1 a xs) ∧ RDs g H1 O2 xs ds := by
    rw [C.hK]
    unfold itemsD at ed
    split at ed
    · rename_i ds' e'
      cases ed
      rw [e'] at r2
      cases r2 with
      | lst h hs => exact ⟨_, _, rfl, .inl h.sq, hs⟩
    · rename_i ds' e'
      cases ed
      rw [e'] at r2
      cases r2 with
      | tup h hs => exact ⟨_, _, rfl, .inr h.sq, hs⟩
    · cases ed
  obtain ⟨a, xs, rfl, hsq, rs⟩ := key
  refine ⟨a, xs, rfl, hsq, by rw [rs.len]; exact hl.1, by rw [rs.len]; exact hl.2, fun d hd => ?_⟩
  have rd := RDs.drop is.length rs
  have rt := RDs.take is.length rs
  have S3 : SI g E (upd H1 d (.lst (xs.drop is.length))) (fun b => O2 b ∨ b = d) σ ρ1 :=
    ⟨S2.st.laidO hd, S2.fr.trans (Fr.laidO (W := fun _ => False) hd) fun _ z => z.elim, S2.wn, S2.o0, S2.io⟩
  have fr0 : Fr (fun _ => False) H1 O2 (upd H1 d (.lst (xs.drop is.length))) (fun b => O2 b ∨ b = d) := Fr.laidO hd
  refine gSt_of S3.st (rt.fr fr0 fun _ z => z.elim) e1 fun σ1 b1 => ?_
  have S4 := S3.bnd b1
  refine q1 _ _ _ (set_rs S4 (r := .fr (.lst (ds.drop is.length))) ⟨d, rfl, S2.fr.there d hd, .inr rfl, fun z => ?_, .lst upd_same (rd.fr fr0 fun _ z => z.elim)⟩ e2).1
  exact S2.st.obj d (S2.st.wn d (b1.wn d z)) hd
theorem ds_aug (C : CtxOk g X) {i : Nat} {x : Str} {pos' : Pos} {s : Sm} (hi : X.N[i]? = some x) (hx : Loc X.env.scope x) (he : PE X e (tE g W s.v)) (hf : X.fn x = true ∨ X.env.scope.names.lookup x = some .local) :
    PS X (.AugAssign (.Name x pos') .Add e pos) (tS g W E (augV i s)) := by
  refine psImp (ps_aug C.nd hi hx he ip_add hf) fun D σ H ⟨O, ρ, S, q⟩ => ?_
  unfold augV at q
  split at q
  case h_2 => exact q.elim
  rename_i a ea
  obtain ⟨v, ev, r⟩ := S.st.get ea
  cases r with | sh r =>
  cases r
  refine ⟨.int a, ev, O, ρ, S.st, (so_rw S q).imp fun r ρ1 q1 w H1 O1 s1 rv => ?_⟩
  obtain ⟨O2, s2, r2⟩ := rv.share S.st s1
  split at q1
  case h_2 => exact q1.elim
  rename_i b eb
  rw [eb] at r2
  cases r2
  split at q1
  case h_2 => exact q1.elim
  rename_i ρ2 e2
  exact ⟨a, b, rfl, rfl, q1 _ H1 O2 ((S.step s2).bnd (bnd_sh s2.st (.int _) e2))⟩
end
section
theorem pick_paired {α β : Type} {F : α → β → Prop} {xs : List α} {ys : List β} (hl : xs.length = ys.length) (h : ∀ (i : Nat) (x : α), xs[i]? = some x → ∃ y, ys[i]? = some y ∧ F x y) (lo hi : Option Int) (st : Int) : Paired F (pickD xs lo hi st) (pickD ys lo hi st) := by
  unfold pickD
  rw [hl]
  generalize PySem.sliceRange _ _ _ = ks
  induction ks with
  | nil => exact .nil
  | cons k ks ih =>
    rcases ex : xs[k]? with _ | x
    · have ey : ys[k]? = none := by
        rw [List.getElem?_eq_none_iff] at ex ⊢
        rw [← hl]; exact ex
      rw [List.filterMap_cons_none ex, List.filterMap_cons_none ey]
      exact ih
    · obtain ⟨y, ey, r⟩ := h k x ex
      rw [List.filterMap_cons_some ex, List.filterMap_cons_some ey]
      exact .cons r ih
theorem rds_paired {g : Gm} {H : Hp} {O : AP1} : ∀ {vs : List V} {ds : List D}, Paired (RD g H O) vs ds → RDs g H O vs ds
  | _, _, .nil => .nil
  | _, _, .cons h hs => .cons h (rds_paired hs)
theorem slicePick_pick (its : List Value) (lo hi : Option Int) (st : Int) : slicePick its.toArray lo hi (some st) = (pickD its lo hi st).toArray := by
  unfold slicePick pickD
  rw [List.size_toArray]
  refine congrArg List.toArray (congrArg (fun f => List.filterMap f _) (funext fun k => ?_))
  rw [List.getElem?_toArray]
theorem vals_rev : ∀ {xs : List V} {its : List Value}, Vals xs its → Vals xs.reverse its.reverse
  | _, _, .nil => .nil
  | _, _, .cons h hs => by
    rw [List.reverse_cons, List.reverse_cons]
    exact (vals_rev hs).append (.cons h .nil)
theorem rds_rev {g : Gm} {H : Hp} {O : AP1} : ∀ {vs : List V} {ds : List D}, RDs g H O vs ds → RDs g H O vs.reverse ds.reverse
  | _, _, .nil => .nil
  | _, _, .cons h hs => by
    rw [List.reverse_cons, List.reverse_cons]
    exact (rds_rev hs).append (.cons h .nil)
variable {X : Cx} {e st : Expr} {lo hi : Option Expr} {te ts : TE} {tl th : TO} {pos p2 : Pos}
def tSls (r : V → Option Int → Option Int → Int → Hp → VK → Prop) (te : TE) (tl th : TO) (ts : TE) : TE := fun σ H Q => te σ H fun x H1 => tl σ H1 fun l H2 => th σ H2 fun u H3 => ts σ H3 fun y H4 => ∃ k, y = .int k ∧ r x l u k H4 Q
def rSls (K : PySem.W.Frag) : V → Option Int → Option Int → Int → Hp → VK → Prop := fun x lo hi k H Q => (∃ a xs, x = .ref a ∧ SqL K H a xs ∧ k ≠ 0 ∧ ∀ p, H p = none → Q (.ref p) (upd H p (.lst (pickD xs lo hi k)))) ∨
  ∃ a xs, x = .ref a ∧ SqT K H a xs ∧ lo = none ∧ hi = none ∧ k = -1 ∧ ∀ p, H p = none → Q (.ref p) (upd H p (.tup xs.reverse))
theorem pe_slices (he : PE X e te) (hl : PO X lo tl) (hu : PO X hi th) (hs : PE X st ts) : PE X (.Subscript e (.Slice lo hi (some st) p2) pos) (tSls (rSls X.K) te tl th ts) := by
  refine ⟨fun pins s σ H Q I h => ?_⟩
  refine Subscript_ (thn (he.run pins s σ H _ I h) fun v s1 ⟨x, H1, I1, r1, q1⟩ => ?_)
  refine wpAny_Slice (thn (hl.run pins s1 σ H1 _ I1 q1) fun vl s2 ⟨l, H2, I2, pl, q2⟩ => thn (hu.run pins s2 σ H2 _ I2 q2) fun vu s3 ⟨u, H3, I3, pu, q3⟩ => ?_)
  rw [evalPart_some]
  refine thn (hs.run pins s3 σ H3 _ I3 q3) fun vs s4 ⟨y, H4, I4, r4, q4⟩ => ?_
  obtain ⟨k, rfl, ⟨a, xs, rfl, hx, hk, q⟩ | ⟨a, xs, rfl, hx, rfl, rfl, rfl, q⟩⟩ := q4
  · obtain ⟨t, rfl⟩ := r4
    cases r1
    have I5 : Inv X pins σ H4 { s4 with heap := s4.heap.push { cls := .type "slice", data := .fields #[vl, vu, .int k t] } } := I4.kept (t' := s4.toks) fun b ob q => Heap.get?_push_of_some _ q
    obtain ⟨its, r, ht, hz⟩ := I5.list hx
    have hlen := r.length
    show wpAny (model X.prog X.w) X.A (subscriptTail e (.Slice lo hi (some st) p2) (.ref a) (.ref s4.heap.objs.size)) (EP X pins σ Q) X.xe { s4 with heap := s4.heap.push { cls := .type "slice", data := .fields #[vl, vu, .int k t] } }
    refine tail_any (ops := [.ref a, .ref s4.heap.objs.size]) ht.isList.typeIs slot_list_getitem.lookup ?_ (by with_unfolding_all rfl)
    refine wpAny_getItem_list_slice ht.isList (Heap.IsSliceOf.new ..) pl pu (.int k t) (by simpa using hk) ?_ (by rw [List.size_toArray] <;> omega)
    rw [slicePick_pick]
    have rp : Vals (pickD xs l u k) (pickD its l u k) := pick_paired hlen (fun i x ex => L2.paired_get r ex) l u k
    refine ⟨.ref _, _, I5.laid (t' := s4.toks) (o := .lst (pickD xs l u k)) (fun b ob q => Heap.get?_push_of_some _ q) (Nat.le_refl _) ?_, rfl, q _ (I5.hok.fresh (Nat.le_refl _))⟩
    have hs : (slicePick its.toArray l u (some k)).size ≤ sizeLine := Nat.le_trans (slicePick_size_le ..) (by rw [List.size_toArray]; omega)
    rw [slicePick_pick, List.size_toArray, ← rp.length] at hs
    exact ⟨hs, _, 0, rp, Heap.get?_push_size _ rfl⟩
  · obtain ⟨t, rfl⟩ := r4
    cases r1
    have I5 : Inv X pins σ H4 { s4 with heap := s4.heap.push { cls := .type "slice", data := .fields #[vl, vu, .int (-1) t] } } := I4.kept (t' := s4.toks) fun b ob q => Heap.get?_push_of_some _ q
    obtain ⟨its, r, ht, hz⟩ := I5.tuple hx
    have hlen := r.length
    show wpAny (model X.prog X.w) X.A (subscriptTail e (.Slice lo hi (some st) p2) (.ref a) (.ref s4.heap.objs.size)) (EP X pins σ Q) X.xe { s4 with heap := s4.heap.push { cls := .type "slice", data := .fields #[vl, vu, .int (-1) t] } }
    refine tail_any (ops := [.ref a, .ref s4.heap.objs.size]) ht.typeIs PyProof.Rows.slot_tuple_getitem.lookup ?_ (by with_unfolding_all rfl)
    refine HT.getItem_tuple_rev ht (Heap.IsSliceOf.new ..) pl pu (.int (-1) t) ?_ (by omega)
    have rp : Vals xs.reverse its.reverse := vals_rev r
    refine ⟨.ref _, _, I5.laid (t' := s4.toks) (o := .tup xs.reverse) (fun b ob q => Heap.get?_push_of_some _ q) (Nat.le_refl _) ?_, rfl, q _ (I5.hok.fresh (Nat.le_refl _))⟩
    exact ⟨by rw [List.length_reverse]; exact hz, _, rp, IsTup.new _ _⟩
end
section
variable {g : Gm} {X : Cx} {W : WX} {a st : Expr} {lo hi : Option Expr} {pos p2 : Pos}
theorem de_sls (C : CtxOk g X) {fa fs : Sm} {fl fh : Option Sm} (ha : PE X a (tP g W fa.o)) (hl : PO X lo (tOO g W (evOp fl))) (hh : PO X hi (tOO g W (evOp fh))) (hs : PE X st (tE g W fs.v)) :
    PE X (.Subscript a (.Slice lo hi (some st) p2) pos) (tE g W (slsV fa fl fh fs)) := by
  refine peImp (pe_slices ha hl hh hs) fun σ H Q ⟨O, ρ, S, q⟩ => ?_
  refine run_p S q fun p ρ1 x H1 O1 s1 px q1 => run_oo s1.st q1 fun l ρ2 H2 O2 s2 q2 => run_oo s2.st q2 fun h ρ3 H3 O3 s3 q3 => run_s s3.st q3 fun r ρ4 v H4 O4 s4 rv q4 => ?_
  split at q4
  case h_2 => exact q4.elim
  rename_i d e1
  obtain ⟨r', er, qr⟩ := q4.of
  unfold slsD at er
  split at er
  · rename_i xs k e2
    split at er
    case isTrue => cases er
    rename_i hk
    cases er
    rw [e2] at rv
    cases rv
    obtain ⟨b, ys, rfl, hX, hxs⟩ := ((px.stp s1.st ((s2.trans s3).trans s4)).rb s4.st e1).getL
    refine ⟨k, rfl, .inl ⟨b, ys, rfl, by rw [C.hK]; exact hX.sq, hk, fun v' n => ?_⟩⟩
    have rp : ∀ l h : Option Int, RDs g H4 O4 (pickD ys l h k) (pickD xs l h k) := fun l h => rds_paired (pick_paired hxs.len (fun i x ex => hxs.getV ex) l h k)
    have := Mk1.lst (Q := fun v H' => Q v H') (rp _ _) (fun v H' O' n => by
      obtain ⟨s5, rv⟩ := n.stp s4.st
      exact qr v H' O' ((((s1.trans s2).trans s3).trans s4).trans s5) (rv.base (((s1.trans s2).trans s3).trans s4).fr.there))
    exact this v' n
  · rename_i xs k e2
    split at er
    case isFalse => cases er
    rename_i hk
    subst hk
    cases er
    rw [e2] at rv
    cases rv
    obtain ⟨b, ys, rfl, hX, hxs⟩ := ((px.stp s1.st ((s2.trans s3).trans s4)).rb s4.st e1).getT
    refine ⟨-1, rfl, .inr ⟨b, ys, rfl, by rw [C.hK]; exact hX, rfl, rfl, rfl, fun v' n => ?_⟩⟩
    have := Mk1.tup (Q := fun v H' => Q v H') s4.st.obj (rds_rev hxs) (fun v H' O' n => by
      obtain ⟨s5, rv⟩ := n.stp s4.st
      exact qr v H' O' ((((s1.trans s2).trans s3).trans s4).trans s5) (rv.base (((s1.trans s2).trans s3).trans s4).fr.there))
    exact this v' n
  · cases er
end
end Wr
namespace Wr
open PySem PySem.Spec L2
open PyProof.Rows hiding St
section
variable {g : Gm} {E : En} {W : WX} {X : Cx} {pos : Pos} {e c tg iter : Expr} {body : List Stmt}
/-- the body of a loop, from wherever its turn begins -/
def tB (g : Gm) (W : WX) (f : Rho → Re Out) : TS := fun D σ H => ∃ E, tS g W E f D σ H
theorem pss_B {f : Rho → Re Out} (h : ∀ E, PSs X body (tS g W E f)) : PSs X body (tB g W f) := ⟨fun pins s σ H D I ⟨E, q⟩ => (h E).run pins s σ H D I q⟩
theorem ds_for (C : CtxOk g X) {it : Rho → Re (List Wr.D)} {fb : Rho → Re Out} {ct : CT} (hp : PassesOwn (model X.prog X.w) X.A X.env X.xe) (hi : PI X tg iter (tI g W it)) (hg : PG X tg (gT X.K ct)) (hb : ∀ E, PSs X body (tS g W E fb))
    (hs : ∀ x, foldedSetIterable iter X.env x = pure x) : PS X (.For tg iter body [] pos) (tS g W E fun ρ => (it ρ).bd fun xs ρ1 => forRun (forTurn ct fb) xs ρ1) := by
  refine psImp (ps_for hp C.calm hi hg (pss_B hb) hs) fun D σ H ⟨O, ρ, S, q⟩ => ?_
  refine ⟨O, ρ, S.st, (so_rw S q).imp fun ds ρ1 q1 J H1 O1 s1 ⟨wk⟩ => ?_⟩
  have S1 := S.step s1
  let E1 : En := ⟨H1, O1, Wn σ ρ1, E.ios⟩
  refine for_it wk.walk (fun i σ' H' => ∃ O' ρ', SI g E1 H' O' σ' ρ' ∧ SO g W E1 (forRun (forTurn ct fb) (ds.drop i) ρ') D) ⟨O1, ρ1, S1.begin_, ?_⟩ ?_ ?_ ?_
  · exact SO.turn S1 q1 fun v σ' H' O' ρ' d _ z => z.comp S1
  · rintro i σ' H' hi ⟨O', ρ', T, _⟩
    exact wk.good _ _ _ T.fr S1.st.wn
  · rintro i x σ' H' H2 hi ⟨O', ρ', T, q⟩ y
    obtain ⟨d, hd⟩ : ∃ d, ds[i]? = some d := ⟨ds[i], by simp [hi]⟩
    obtain ⟨r, gr⟩ := wk.item _ _ _ i x H2 d T.fr S1.st.wn T.st.obj y hd
    have T' := T.grow gr
    have e1 : ds.drop i = d :: ds.drop (i + 1) := by
      have := List.drop_eq_getElem_cons hi
      rw [this]
      congr 1
      have h2 := List.getElem?_eq_getElem hi
      rw [hd] at h2
      exact (Option.some.inj h2).symm
    rw [e1] at q
    unfold forRun at q
    cases eb : bindT ct d ρ' with
    | none =>
      have et : forTurn ct fb d ρ' = .st := by unfold forTurn; rw [eb]
      rw [et] at q
      exact q.elim
    | some ρ2 =>
      have et : forTurn ct fb d ρ' = fb ρ2 := by unfold forTurn; rw [eb]
      rw [et] at q
      rw [C.hK]
      refine gT_of T'.st r eb fun σ1 b => ⟨E1, O', ρ2, T'.bnd b, ?_⟩
      cases ef : fb ρ2 with
      | ok o ρ3 =>
        rw [ef] at q
        cases o with
        | nx => exact fun σ4 H4 O4 S4 => ⟨O4, ρ3, S4, q⟩
        | ct => exact fun σ4 H4 O4 S4 => ⟨O4, ρ3, S4, q⟩
        | bk => exact q
        | rt v => exact q
      | ex x ρ3 =>
        rw [ef] at q
        exact q
      | st =>
        rw [ef] at q
        exact q
  · rintro σ' H' ⟨O', ρ', T, q⟩
    rw [List.drop_length] at q
    exact q σ' H' O' T
theorem ds_whl (C : CtxOk g X) {n : Nat} {s : Sm} {fb : Rho → Re Out} (hp : PassesOwn (model X.prog X.w) X.A X.env X.xe) (hc : PT X c (tQ g W s.t)) (hb : ∀ E, PSs X body (tS g W E fb)) :
    PS X (.While c body [] pos) (tS g W E (whlRun s.t fb n)) := by
  refine psImp (ps_while hp hc (pss_B hb)) fun D σ H ⟨O, ρ, S, q⟩ => ?_
  let E1 : En := ⟨H, O, Wn σ ρ, E.ios⟩
  refine ⟨fun m σ' H' => ∃ O' ρ', SI g E1 H' O' σ' ρ' ∧ SO g W E1 (whlRun s.t fb m ρ') D, ⟨n, O, ρ, S.begin_, ?_⟩, ?_⟩
  · exact SO.turn S q fun v σ' H' O' ρ' d _ z => z.comp S
  · rintro m σ' H' ⟨O', ρ', T, q⟩
    cases m with
    | zero => exact q.elim
    | succ m =>
      unfold whlRun at q
      refine ⟨O', ρ', T.st, (so_rw T q).imp fun t ρ1 q1 H1 O1 s1 => ?_⟩
      have T1 := T.step s1
      cases t with
      | false =>
        rw [if_neg Bool.false_ne_true] at q1
        show D.nx σ' H1
        exact q1 σ' H1 O1 T1
      | true =>
        rw [if_pos rfl] at q1
        show ∃ N, _ ∧ _
        refine ⟨fun σ4 H4 => ∃ O' ρ', SI g E1 H4 O' σ4 ρ' ∧ SO g W E1 (whlRun s.t fb m ρ') D, fun σ4 H4 z => ⟨m, Nat.lt_succ_self m, z⟩, E1, O1, ρ1, T1, ?_⟩
        cases ef : fb ρ1 with
        | ok o ρ3 =>
          rw [ef] at q1
          cases o with
          | nx => exact fun σ4 H4 O4 S4 => ⟨O4, ρ3, S4, q1⟩
          | ct => exact fun σ4 H4 O4 S4 => ⟨O4, ρ3, S4, q1⟩
          | bk => exact q1
          | rt v => exact q1
        | ex x ρ3 =>
          rw [ef] at q1
          exact q1
        | st =>
          rw [ef] at q1
          exact q1
end
end Wr
namespace Wr
open PySem PySem.Spec L2
open PyProof.Rows hiding St
def spIni (K : PySem.W.Frag) (f : Str) : Sp := fun vs H Q _ => ∃ (a C : Addr) (v : V), vs = [.ref a, v] ∧ OexC K C ∧ PySem.W.findIn K (.ref C) f = some none ∧ H a = some (exo a C none) ∧ ∀ dx, H dx = none → dx ≠ a → Q .non (upd (upd H dx (exd dx [(f, v)])) a (exo a C (some dx)))
theorem ini_ok {CX : CXT} {P : Program} {w : World} {K : PySem.W.Frag} {mg : Str → Option Value} {base : Heap} {fI : Addr} {fd : FuncData} {qual f : Str} {pa : Arguments} {sc : Scope} {p1 p2 p3 p4 : Pos} (F : FunD K "__init__" qual pa [.Assign [.Attribute (.Name "self" p1) f p2] (.Name f p3) p4] sc [] [] fI fd)
    (S : FnScope ["self", f] ["self", f] sc) (hp : (f == ("__debug__" : Str)) = false ∧ (f == ("__classdict__" : Str)) = false) : FnOk P w K mg base CX 1 fI fd ["self", f] (spIni K f) := by
  have vis : ∀ {x : Str}, x ∈ (["self", f] : List Str) → Vis sc x := fun h => (S.par _ h).elim .inl fun z => .inr (.inl z)
  refine F.ok S (fun vs H Q E ⟨a, C, v, e, _⟩ => by rw [e]; rfl) fun cdv A outer s H vs Q E hr h => ⟨_, pss_one (ps_ost (pe_var (i := 0) rfl (vis List.mem_cons_self)) (pe_var (i := 1) rfl (vis (List.mem_cons_of_mem _ List.mem_cons_self)) hp.1 hp.2)), ?_⟩
  obtain ⟨a, C, v, rfl, T, hno, ea, q⟩ := h
  exact ⟨v, rfl, .ref a, rfl, a, C, rfl, T, hno, .inl ⟨ea, fun dx n ne => q dx n ne⟩⟩
theorem few_one (e : Expr) (cpos : Pos) (env : Env) (ns : NotStar e) : ((backTo cpos (starEach (e :: []) env)).all (fun x => !x.1) && (backToKw cpos (keywordEach [] env)).all (fun x => x.1.isSome)
      && decide ((e :: []).length + ([] : List Keyword).length + (if ([] : List Keyword).isEmpty then 0 else 1) < 30)) = true := by
  rw [ns [] env]
  rfl
section
variable {g : Gm} {E : En} {W : WX} {X : Cx} {pos : Pos} {e : Expr}
theorem ds_rse (C : CtxOk g X) (tk : Takes X W) {x f : Str} {Ca : Addr} {p p2 : Pos} {s : Sm} (F : XcF g x f Ca) (hr : Room 2 X.A) (hg : Gl X x) (hdb : (x == ("__debug__" : Str)) = false) (he : AS g W X e s) :
    PS X (.Raise (some (.Call (.Name x p) [e] [] pos)) none p2) (tS g W E (rseV x f s)) := by
  obtain ⟨fI, fd, qual, pa, sc, p1, p2', p3, p4, h1, h2, h3, h4, h5, h6⟩ := F.ini
  have T : OexC X.K Ca := by rw [C.hK]; exact F.cl
  have mk := pmk_oex (CX := L2.CX X.prog X.w) (p := p) (pos := pos) T (by rw [C.hK]; exact h1) (by rw [C.hK]; exact h2) (ini_ok (P := X.prog) (w := X.w) (mg := X.mg) (base := X.base) (K := X.K) (by rw [C.hK]; exact h3) h4 h6) hr (by rw [C.hK]; exact h5) .nil (passes_call tk fun _ _ _ _ z => False.elim z) hg (by rw [C.hmg]; exact F.mg)
    (pa_cons he.es.v pa_nil (he.ns [] _)) hdb (he.ns [] _) rfl
  refine psImp (ps_raise C.calm tk mk) fun D σ H ⟨O, ρ, S, q⟩ => ?_
  unfold rseV at q
  refine ⟨O, ρ, S.st, (so_rw S q).imp fun r ρ1 q1 v H1 O1 s1 rv => ?_⟩
  obtain ⟨O2, s2, r2⟩ := rv.share S.st s1
  have S2 := S.step s2
  refine ⟨by show 1 ≤ 1000; omega, fun a na => ⟨a, Ca, v, rfl, T, by rw [C.hK]; exact F.no, upd_same, fun dx nd ne => ?_⟩⟩
  have nd1 : H1 dx = none := by rw [upd_ne ne] at nd; exact nd
  refine ⟨rfl, dx, [(f, v)], upd_same, by rw [upd_ne ne, upd_same], nd1, ?_⟩
  have eH : upd (del (upd (upd (upd H1 a (exo a Ca none)) dx (exd dx [(f, v)])) a (exo a Ca (some dx))) a) dx (.xd [(f, v)]) = upd H1 dx (.xd [(f, v)]) := by
    funext b
    by_cases hb : b = dx
    · rw [hb, upd_same, upd_same]
    · rw [upd_ne hb, upd_ne hb]
      by_cases ha : b = a
      · rw [ha, del_same, na]
      · rw [del_ne ha, upd_ne ha, upd_ne hb, upd_ne ha]
  rw [eH]
  have S3 := S2.grow (H1 := upd H1 dx (.xd [(f, v)])) (.inr ⟨dx, _, nd1, rfl⟩)
  exact q1 _ _ _ _ _ S3 ⟨Ca, dx, f, v, r.d, F, rfl, rfl, upd_same, fun z => S2.st.obj dx z nd1, rfl, r2.fr (up_fr nd1) fun _ z => z.elim⟩
theorem cnt_red {a b : Expr} {x : Str} {apos : Pos} {id : String} {k : D → D → Option Rs} {sa sb : Sm} (hK : X.K = g.K) (slot : Slot "list" x id) (hty : typeOf (.builtin id) = pure (.type "method_descriptor"))
    (hm : MtR X id fun x xs H Q => ∃ (O : AP1) (y : V) (d e : D) (r : Rs), xs = [y] ∧ RB g H O x d ∧ RB g H O y e ∧ (∀ b, O b → H b ≠ none) ∧ k d e = some r ∧ Mk1 g H O r Q)
    (ha : PE X a (tP g W sa.o)) (hb : AS g W X b sb) (hbase : attributeBase a x X.env (eval a X.env) = eval a X.env) (hl : (apos.endLine == pos.line) = true) :
    PE X (.Call (.Attribute a x apos) [b] [] pos) (tE g W (lmV sa sb k)) := by
  refine peImp (pe_bm PySem.F.plainAttrs_list slot hty hm ha (pa_cons hb.es.v pa_nil (hb.ns [] _)) hbase (few_one b pos _ hb.ns) hl (hb.ns [] _) rfl) fun σ H Q ⟨O, ρ, S, q⟩ => ?_
  refine run_p S q fun p ρ1 x H1 O1 s1 px q1 => ?_
  split at q1
  · rename_i ds0 ep
    obtain ⟨ad, xs, rfl, hX, hxs⟩ := (px.rb s1.st ep).getL
    refine ⟨.inl ⟨rfl, xs, by rw [hK]; exact hX.sq⟩, ?_⟩
    refine run_s s1.st q1 fun r ρ2 v2 H2 O2 s2 rv2 q2 => ?_
    split at q2
    · rename_i d ed
      obtain ⟨r', er, qr⟩ := q2.of
      refine ⟨O2, v2, d, r.d, r', rfl, (px.stp s1.st s2).rb s2.st ed, .sh rv2, s2.st.obj, er, fun v H' O' n => ?_⟩
      obtain ⟨s3, rv⟩ := n.stp s2.st
      exact qr v H' O' ((s1.trans s2).trans s3) (rv.base (s1.trans s2).fr.there)
    · exact q2.elim
  · exact q1.elim
theorem de_cnt (C : CtxOk g X) {a b : Expr} {apos : Pos} {sa sb : Sm} (ha : PE X a (tP g W sa.o)) (hb : AS g W X b sb) (hbase : attributeBase a "count" X.env (eval a X.env) = eval a X.env) (hl : (apos.endLine == pos.line) = true) :
    PE X (.Call (.Attribute a "count" apos) [b] [] pos) (tE g W (lmV sa sb cntD)) := cnt_red C.hK PySem.F.slot_list_count PySem.F.type_list_count (mt_cntD C.hK C.un) ha hb hbase hl
theorem de_idx (C : CtxOk g X) (hu : X.A.units + 65 < cLine) {a b : Expr} {apos : Pos} {sa sb : Sm} (ha : PE X a (tP g W sa.o)) (hb : AS g W X b sb) (hbase : attributeBase a "index" X.env (eval a X.env) = eval a X.env) (hl : (apos.endLine == pos.line) = true) :
    PE X (.Call (.Attribute a "index" apos) [b] [] pos) (tE g W (lmV sa sb idxD)) := cnt_red C.hK PySem.F.slot_list_index PySem.F.type_list_index (mt_idxD C.hK hu) ha hb hbase hl
theorem exh_at {pins : List (Addr × Obj)} {σ : St} {H : Hp} {s : Shared} {a C dx : Addr} {fs : List (Str × V)} (I : Inv X pins σ H s) (ea : H a = some (exh a C dx)) (ed : H dx = some (.xd fs)) :
    ∃ (oe od : Obj) (mA : Str → Option Value), PySem.W.InstAt s.heap a oe C (some od) ∧ s.heap.get? dx = some od ∧ (∀ n, PySem.W.lookIn n od = some (mA n)) ∧ ∀ n, RelO (fs.lookup n) (mA n) := by
  obtain ⟨⟨oe, vs, h1, h2, h3, h4⟩, _, _⟩ := (show ObjOk X.prog X.w H s.heap a (exh a C dx) from I.hok a _ ea)
  obtain ⟨mA, hns, hr⟩ := (show ObjOk X.prog X.w H s.heap dx (.xd fs) from I.hok dx _ ed)
  obtain ⟨od, ho, hl⟩ := lookIn_ns hns
  exact ⟨oe, od, mA, ⟨h1, h2, by unfold PySem.W.notCls; rw [h4] <;> rfl, by rw [h3]; exact ho⟩, ho, hl, hr⟩
/-- e.f -/
theorem de_att (C : CtxOk g X) {f : Str} {s : Sm} (he : PE X e (tP g W s.o)) (hb : attributeBase e f X.env (eval e X.env) = eval e X.env) :
    PE X (.Attribute e f pos) (tE g W (op1 s.o fun x ρ => .of ((attD f x).map .sh) ρ)) := by
  refine ⟨fun pins s0 σ H Q I ⟨O, ρ, S, q⟩ => attr_of hb (thn (he.run pins s0 σ H (fun x H1 => ∃ (a dx Ca : Addr) (x' : Str) (v : V), x = .ref a ∧ XcF g x' f Ca ∧ H1 a = some (exh a Ca dx) ∧ H1 dx = some (.xd [(f, v)]) ∧ Q v H1) I ?_) fun u s1 hh => ?_)⟩
  · refine run_p S q fun p ρ1 x H1 O1 s1 px q1 => ?_
    split at q1
    · rename_i d ed
      obtain ⟨r, er, qr⟩ := q1.of
      obtain ⟨d', ed', rfl⟩ := Option.map_eq_some_iff.mp er
      cases d <;> try (cases ed'; done)
      rename_i x' f' d
      unfold attD at ed'
      dsimp only at ed'
      split at ed'
      · rename_i ef
        cases ed'
        subst ef
        have rb := px.rb s1.st ed
        cases rb with
        | sh r0 =>
          cases r0 with
          | xc F e1 n1 e2 n2 rv =>
            exact ⟨_, _, _, x', _, rfl, F, e1, e2, qr _ H1 O1 s1 rv⟩
      · cases ed'
    · exact q1.elim
  · obtain ⟨x, H1, I1, rx, a, dx, Ca, x', v, rfl, F, e1, e2, q1⟩ := hh
    obtain rfl : u = Value.ref a := rx
    obtain ⟨oe, od, mA, J, ho, hl, hr⟩ := exh_at I1 e1 e2
    have l : List.lookup f [(f, v)] = some v := by simp [List.lookup]
    obtain ⟨u, hu, ru⟩ := RelO.some_of (v := v) (o := mA f) (by rw [← l]; exact hr f)
    have K1 := I1.kIn
    rw [C.hK] at K1
    exact HandSPX.exc_get K1 J F.fd.ga F.fd.gg F.fd.exC (PySem.W.findObj_own F.fd.hdC F.no rfl (by rw [hl, hu])) (handed_of ru) ⟨v, H1, I1.tok _, ru, q1⟩
/-- what is known of the class y beside the class x -/
def XiF (g : Gm) (x y : Str) : Prop := ∃ C, g.mg x = some (.ref C) ∧
  ((∃ D, g.mg y = some (.ref D) ∧ PySem.W.kitOne g.K (.ref C) (.ref D) = some (decide (y = x) || decide (y = ("ReachError" : Str)) || decide (y = ("ValueError" : Str)))) ∨
    (y = ("ValueError" : Str) ∧ g.mg y = none ∧ PySem.W.kitOne g.K (.ref C) (.type "ValueError") = some true))
theorem kitx_of_xc {a C : Addr} {x f : Str} {oe od : Obj} (F : XcF g x f C) : PySem.W.KitX g.K (.ref a) (.ref C) (fun h => PySem.W.InstAt h a oe C (some od)) := by
  obtain ⟨cd, hc, _⟩ := PySem.W.any_some F.fd.hdC
  exact PySem.W.kitx_exc (by rw [hc]; rfl) F.fd.ga F.fd.gg F.fd.exC F.ha F.hn F.ht F.hm
/-- isinstance(e, y) -/
def rIsx (g : Gm) (y : Str) : List V → Hp → VK → Prop := fun xs H Q => ∃ (a dx C : Addr) (x f : Str) (v c : V) (cv : Value) (b : Bool), xs = [.ref a, c] ∧ XcF g x f C ∧ H a = some (exh a C dx) ∧ H dx = some (.xd [(f, v)]) ∧ (∀ u, RelV c u → u = cv) ∧ PySem.W.kitOne g.K (.ref C) cv = some b ∧ Q (.bl b) H
theorem call_isx (hK : X.K = g.K) {y : Str} : CallR X (.builtin "isinstance") (rIsx g y) := by
  intro pins s σ H xs us Q I r h
  obtain ⟨a, dx, C, x, f, v, c, cv, b, rfl, F, e1, e2, hc, hk, q⟩ := h
  obtain ⟨u1, u2, rfl, r1, r2⟩ := vals2 r
  cases (show u1 = Value.ref a from r1)
  cases hc u2 r2
  obtain ⟨oe, od, mA, J, _⟩ := exh_at I e1 e2
  have K1 := I.kIn
  rw [hK] at K1
  exact PySem.W.kia_one (kitx_of_xc F) K1 J hk (fun z => nomatch z) fun tk => ⟨.bl b, H, I.tok tk, rfl, q⟩
/-- isinstance(e, (y, ..)) -/
def rIsxT (g : Gm) : List V → Hp → VK → Prop := fun xs H Q => ∃ (a dx C tp : Addr) (x f : Str) (v : V) (Ds : List Addr) (b : Bool), xs = [.ref a, .ref tp] ∧ XcF g x f C ∧ H a = some (exh a C dx) ∧ H dx = some (.xd [(f, v)]) ∧ H tp = some (.tup (Ds.map V.ref)) ∧ PySem.W.kitAny g.K (.ref C) (Ds.map Value.ref) = some b ∧ Q (.bl b) H
theorem refs_eq : ∀ {Ds : List Addr} {its : List Value}, Vals (Ds.map V.ref) its → its = Ds.map Value.ref
  | [], _, .nil => rfl
  | d :: ds, _, .cons r rs => by
    rw [refs_eq rs]
    cases (show _ = Value.ref d from r)
    rfl
theorem call_isxT (hK : X.K = g.K) : CallR X (.builtin "isinstance") (rIsxT g) := by
  intro pins s σ H xs us Q I r h
  obtain ⟨a, dx, C, tp, x, f, v, Ds, b, rfl, F, e1, e2, e3, hk, q⟩ := h
  obtain ⟨u1, u2, rfl, r1, r2⟩ := vals2 r
  cases (show u1 = Value.ref a from r1)
  cases (show u2 = Value.ref tp from r2)
  obtain ⟨oe, od, mA, J, _⟩ := exh_at I e1 e2
  have K1 := I.kIn
  rw [hK] at K1
  obtain ⟨_, its, rv, o, h1, h2, n, h3⟩ := (show ObjOk X.prog X.w H s.heap tp (.tup (Ds.map V.ref)) from I.hok tp _ e3)
  have ei := refs_eq rv
  subst ei
  obtain ⟨oc, od', dt, sl⟩ := o
  simp only at h2 h3
  subst h2 h3
  exact PySem.W.kia_tup (kitx_of_xc F) K1 J h1 hk (fun z => nomatch z) fun tk => ⟨.bl b, H, I.tok tk, rfl, q⟩
theorem rd_xc {H : Hp} {O : AP1} {v : V} {x f : Str} {d : D} (h : RB g H O v (.xc x f d)) : ∃ (a dx C : Addr) (w : V), v = .ref a ∧ XcF g x f C ∧ H a = some (exh a C dx) ∧ H dx = some (.xd [(f, w)]) := by
  cases h with
  | sh h => cases h with | xc F e1 n1 e2 n2 rv => exact ⟨_, _, _, _, rfl, F, e1, e2⟩
/-- what is looked at with one class -/
theorem isx_one {x y : Str} : isxD [y] (.xc x f d) = some (decide (y = x) || decide (y = ("ReachError" : Str)) || decide (y = ("ValueError" : Str))) := by
  simp [isxD]
theorem de_isx (C : CtxOk g X) {y : Str} {p1 p2 : Pos} {s : Sm} (hy : (∃ D, g.mg y = some (.ref D)) ∨ (y = ("ValueError" : Str) ∧ g.mg y = none)) (hi : ∀ x ∈ g.xs, XiF g x y) (hg : Gl X "isinstance") (hm : X.mg "isinstance" = none) (hg2 : Gl X y) (hdb : (y == ("__debug__" : Str)) = false) (he : AS g W X e s) :
    PE X (.Call (.Name "isinstance" p1) [e, .Name y p2] [] pos) (tE g W (op1 s.o fun x ρ => .of ((isxD [y] x).map fun b => .sh (.bl b)) ρ)) := by
  rcases hy with ⟨D, hD⟩ | ⟨rfl, hn⟩
  · have hc : PE X (.Name y p2) (tC (.ref D)) := pe_glob hg2 (by rw [C.hmg]; exact hD) rfl hdb
    have ha := pa_cons he.es.o (pa_cons hc pa_nil rfl) (he.ns _ _)
    refine peImp (pe_callB (call_isx (g := g) C.hK (y := y)) hg hm boot_isinstance ha (by decide) (by decide) (he.ns _ _) rfl) fun σ H Q ⟨O, ρ, S, q⟩ => ?_
    refine run_p S q fun p ρ1 v H1 O1 s1 px q1 => ?_
    split at q1
    · rename_i d ed
      obtain ⟨r, er, qr⟩ := q1.of
      obtain ⟨b, eb, rfl⟩ := Option.map_eq_some_iff.mp er
      cases d <;> try (cases eb; done)
      rename_i x f d
      obtain ⟨a, dx, Ca, w, rfl, F, e1, e2⟩ := rd_xc (px.rb s1.st ed)
      rw [isx_one] at eb
      obtain ⟨Cx', hx', hy⟩ := hi x F.inn
      rw [F.mg] at hx'
      cases hx'
      rcases hy with ⟨D', hD', hk⟩ | ⟨_, hn, _⟩
      · rw [hD] at hD'
        cases hD'
        rw [eb] at hk
        exact ⟨a, dx, Ca, x, f, w, .ref D, .ref D, b, rfl, F, e1, e2, fun u hu => hu, hk, qr _ H1 O1 s1 (.bl _)⟩
      · rw [hD] at hn
        cases hn
    · exact q1.elim
  · have hc : PE X (.Name "ValueError" p2) (tC (.ty "ValueError")) := pe_bltn hg2 (by rw [C.hmg]; exact hn) (u := .type "ValueError") PyProof.Rows.Boot.«ValueError» rfl (by decide) (by decide)
    have ha := pa_cons he.es.o (pa_cons hc pa_nil rfl) (he.ns _ _)
    refine peImp (pe_callB (call_isx (g := g) C.hK (y := "ValueError")) hg hm boot_isinstance ha (by decide) (by decide) (he.ns _ _) rfl) fun σ H Q ⟨O, ρ, S, q⟩ => ?_
    refine run_p S q fun p ρ1 v H1 O1 s1 px q1 => ?_
    split at q1
    · rename_i d ed
      obtain ⟨r, er, qr⟩ := q1.of
      obtain ⟨b, eb, rfl⟩ := Option.map_eq_some_iff.mp er
      cases d <;> try (cases eb; done)
      rename_i x f d
      obtain ⟨a, dx, Ca, w, rfl, F, e1, e2⟩ := rd_xc (px.rb s1.st ed)
      rw [isx_one] at eb
      obtain ⟨Cx', hx', hy⟩ := hi x F.inn
      rw [F.mg] at hx'
      cases hx'
      rcases hy with ⟨D', hD', hk⟩ | ⟨_, _, hk⟩
      · rw [hn] at hD'
        cases hD'
      · have eb : b = true := by
          cases eb
          simp
        subst eb
        exact ⟨a, dx, Ca, x, f, w, .ty "ValueError", .type "ValueError", true, rfl, F, e1, e2, fun u hu => hu, hk, qr _ H1 O1 s1 (.bl _)⟩
    · exact q1.elim
/-- names of classes -/
inductive ClsN (g : Gm) (X : Cx) : List Expr → List Str → List Addr → Prop where
  | nil : ClsN g X [] [] []
  | cons {y : Str} {p : Pos} {D : Addr} {es : List Expr} {ys : List Str} {Ds : List Addr} : Gl X y → (y == ("__debug__" : Str)) = false → g.mg y = some (.ref D) → (∀ x ∈ g.xs, XiF g x y) → ClsN g X es ys Ds → ClsN g X (.Name y p :: es) (y :: ys) (D :: Ds)
theorem pa_cls (C : CtxOk g X) : ∀ {es : List Expr} {ys : List Str} {Ds : List Addr}, ClsN g X es ys Ds → PA X es fun _ H Q => Q (Ds.map V.ref) H
  | _, _, _, .nil => pa_nil
  | _, _, _, .cons hg hd hm _ h => paImp (pa_cons (pe_glob (v := .ref _) (u := .ref _) hg (by rw [C.hmg]; exact hm) rfl hd) (pa_cls C h) rfl) fun σ H Q q => q
theorem kit_cls {x : Str} {C : Addr} (hx : x ∈ g.xs) (hm : g.mg x = some (.ref C)) : ∀ {es : List Expr} {ys : List Str} {Ds : List Addr}, ClsN g X es ys Ds →
    PySem.W.kitAny g.K (.ref C) (Ds.map Value.ref) = some (ys.any fun c => decide (c = x) || decide (c = ("ReachError" : Str)) || decide (c = ("ValueError" : Str)))
  | _, _, _, .nil => rfl
  | _, _, _, .cons (y := y) hg hd hD hi h => by
    obtain ⟨C', hC', hy⟩ := hi x hx
    rw [hm] at hC'
    cases hC'
    have ih := kit_cls hx hm h
    rcases hy with ⟨D', hD', hk⟩ | ⟨_, hn, _⟩
    · rw [hD] at hD'
      cases hD'
      rw [List.map_cons, List.any_cons]
      unfold PySem.W.kitAny
      rw [hk]
      cases hb : decide (y = x) || decide (y = ("ReachError" : Str)) || decide (y = ("ValueError" : Str)) with
      | true => rfl
      | false => exact ih
    · rw [hD] at hn
      cases hn
theorem de_isxT (C : CtxOk g X) {es : List Expr} {ys : List Str} {Ds : List Addr} {p1 p2 : Pos} {k : Nat} {s : Sm} (hn : ClsN g X es ys Ds) (hz : es.length ≤ 1000) (hg : Gl X "isinstance") (hm : X.mg "isinstance" = none) (he : AS g W X e s) :
    PE X (.Call (.Name "isinstance" p1) [e, .Tuple es k p2] [] pos) (tE g W (op1 s.o fun x ρ => .of ((isxD ys x).map fun b => .sh (.bl b)) ρ)) := by
  have hc := pe_tup (x1 := k) (pos := p2) (pa_cls C hn)
  have ha := pa_cons he.es.o (pa_cons hc pa_nil rfl) (he.ns _ _)
  have len : Ds.length = es.length := by
    clear hz hc ha
    induction hn with
    | nil => rfl
    | cons _ _ _ _ _ ih => rw [List.length_cons, List.length_cons, ih]
  refine peImp (pe_callB (call_isxT (g := g) C.hK) hg hm boot_isinstance ha (by decide) (by decide) (he.ns _ _) rfl) fun σ H Q ⟨O, ρ, S, q⟩ => ?_
  refine run_p S q fun p ρ1 v H1 O1 s1 px q1 => ?_
  split at q1
  · rename_i d ed
    obtain ⟨r, er, qr⟩ := q1.of
    obtain ⟨b, eb, rfl⟩ := Option.map_eq_some_iff.mp er
    cases d <;> try (cases eb; done)
    rename_i x f d
    obtain ⟨a, dx, Ca, w, rfl, F, e1, e2⟩ := rd_xc (px.rb s1.st ed)
    have hk := kit_cls F.inn F.mg hn
    refine ⟨by rw [List.length_map, len, sizeLine_eq]; omega, fun tp nt => ?_⟩
    have eb' : (ys.any fun c => decide (c = x) || decide (c = ("ReachError" : Str)) || decide (c = ("ValueError" : Str))) = b := Option.some.inj eb
    rw [eb'] at hk
    have st2 : StR g (upd H1 tp (.tup (Ds.map V.ref))) O1 σ ρ1 := s1.st.laid nt
    exact ⟨a, dx, Ca, tp, x, f, w, Ds, b, rfl, F, by rw [upd_ne (ne_of_none e1 nt)]; exact e1, by rw [upd_ne (ne_of_none e2 nt)]; exact e2, upd_same, hk, qr _ _ O1 (s1.trans ⟨Fr.laid nt, st2, fun _ z => z, fun _ d e => ⟨d, e⟩⟩) (.bl _)⟩
  · exact q1.elim
end
section
variable {X : Cx} {pins : List (Addr × Obj)} {σ : St} {H : Hp} {s : Shared}
/-- an exception that was pinned is tracked from now on -/
theorem Inv.adopt {a C dx : Addr} {oe : Obj} {vs : Array Value} (I : Inv X ((a, oe) :: pins) σ H s) (hc : oe.cls = .ref C) (hd : oe.dict = some dx) (hv : oe.data = .fields vs) (new : ∀ o, X.s_0.heap.get? a = some o → a ∈ X.ex) (np : ∀ p ∈ X.pn ++ pins, p.1 ≠ a) :
    Inv X pins σ (upd H a (exh a C dx)) s := by
  obtain ⟨ga, na, nl, nf, nc⟩ := I.pin (a, oe) (List.mem_append_right _ List.mem_cons_self)
  have keep : ∀ {b : Addr} {u : HO}, H b = some u → upd H a (exh a C dx) b = some u := fun {b u} e => by
    rw [upd_ne (ne_of_none e na)]; exact e
  refine ⟨I.ok, I.os, I.bare, ⟨I.base.keep, I.base.slot, fun b o z n hx => ?_, I.base.there, fun b xs z => keep (I.base.tups b xs z), fun b o u z => keep (I.base.frzs b o u z), fun b ps z => ?_⟩, I.loc, I.cell, ?_, fun y c e => ?_, fun p hp => ?_, fun b u e => ?_, I.len⟩
  · rw [upd_ne fun e => hx (by rw [e]; exact new o (by rw [← e]; exact z))]
    exact I.base.free b o z n hx
  · obtain ⟨more, e⟩ := I.base.tbls b ps z
    exact ⟨more, keep e⟩
  · rw [upd_ne fun e => nl e.symm]
    exact I.free
  · rw [upd_ne fun e => ?_]
    · exact I.freeC y c e
    · rename_i hce
      obtain ⟨v, o, ho, hd'⟩ := I.cell y c hce
      rw [e, ga] at ho
      cases ho
      exact nc v hd'
  · have hm : p ∈ X.pn ++ ((a, oe) :: pins) := by
      rcases List.mem_append.mp hp with h | h
      · exact List.mem_append_left _ h
      · exact List.mem_append_right _ (List.mem_cons_of_mem _ h)
    obtain ⟨h1, h2, h3⟩ := I.pin p hm
    exact ⟨h1, by rw [upd_ne (np p hp)]; exact h2, h3⟩
  · by_cases hb : b = a
    · subst hb
      rw [upd_same] at e
      cases e
      exact ⟨⟨oe, vs, ga, hc, hd, hv⟩, ⟨oe, ga⟩, fun h1 h2 ⟨o, v, q, r⟩ k => ⟨o, v, k _ q, r⟩⟩
    · rw [upd_ne hb] at e
      exact (I.hok b u e).stay (fun _ _ _ q => q) (fun c hc => keep hc) fun c xs hc => keep hc
end
section
variable {X : Cx} {r n y : Str} {R : Value} {i j : Nat} {body : List Stmt} {np py pn pa pos pos' : Pos} {tb : WX → TS}
theorem ps_note (hs : X.stack = X.env :: X.outer) (hf : X.env.frame = some X.env.locals) (hN : X.N.Nodup) (hi : X.N[i]? = some y) (hj : X.N[j]? = some n) (hij : i ≠ j) (hln : X.env.kindOf n = some .local) (hy : Loc X.env.scope y) (hfy : X.fn y = true ∨ X.env.scope.names.lookup y = some .local)
    (hdn : (n == ("__debug__" : Str)) = false) (hcn : (n == ("__classdict__" : Str)) = false) (hR : Names X r R)
    (hb : ∀ (W : WX) (pn : List (Addr × Obj)) (xe : Value → Shared → Prop), Takes (X.tr pn xe) W → PassesOwn (model X.prog X.w) X.A X.env xe → PSs (X.tr pn xe) body (tb W)) :
    PS X (.Try body [.ExceptHandler (some (.Name r np)) (some n) [.Assign [.Name y py] (.Name n pn) pa] pos'] [] [] pos) (fun D σ H => tb (fun cls d σ H => PySem.W.exmOne X.K cls R = some true ∧ ∃ C dx, cls = .ref C ∧ d = some dx ∧ ∀ a, H a = none → D.nx (((σ.set j (some (.ref a))).set i (some (.ref a))).set j none) (upd H a (exh a C dx))) D σ H) := by
  refine ⟨fun pins s σ H D I h => ?_⟩
  have ok := I.ok
  have fr : X.A.frames = some (X.env :: X.outer) := by rw [ok.frames, hs]
  have locN : Loc X.env.scope n := .inl hln
  refine wpAny_Try_except ?_
  refine wpAny_mono ((hb _ (X.pn ++ pins) (fun e s₁ => wpAny (model X.prog X.w) X.A (noteFrame e X.env) (fun _ s₂ => wpAny (model X.prog X.w) X.A (setFlight e none) (fun _ s₃ =>
    wpAny (model X.prog X.w) X.A (handleBy e X.env [.ExceptHandler (some (.Name r np)) (some n) [.Assign [.Name y py] (.Name n pn) pa] pos']) (SP X pins D) X.xe s₃) X.xe s₂) X.xe s₁) (fun u s' air => ?_) PassesOwn.looking).run [] s σ H D (I.toTry _) h) (fun f s1 out => ?_) (fun _ _ q => q)
  · obtain ⟨a, B, sI, pins', σ', H', cls, d, rfl, J', nb, up, sky, na, os, ag, match_, C, dx, rfl, rfl, yes⟩ := air
    have J : Inv X pins σ' H' sI := J'.ofTry ok
    show wpAny (model X.prog X.w) X.A (noteFrame (.ref a) X.env) _ _ _
    refine Sky.land Zc.steady fr hf (by rw [← hs]; exact sky) fun h3 fl3 up3 => ?_
    have J3 : Inv X pins σ' H' { s' with heap := h3 } := J.landed nb fl3.1 (up.trans up3) os ag
    obtain ⟨oe3, vs3, g3, z3, d3⟩ := fl3.there
    have noFr : a ∉ frs (X.env :: X.outer) := fun hm => by
      obtain ⟨_, o', e', nfl⟩ := fl3.2.2.1.mem hm
      rw [g3] at e'; cases e'
      exact nfl _ d3
    have nL : a ≠ X.env.locals := fun z => noFr (List.mem_filterMap.mpr ⟨X.env, List.mem_cons_self, by rw [hf, z]⟩)
    have nF : a ∉ X.fs := fun hm => by
      obtain ⟨e, he, q⟩ := List.mem_filterMap.mp hm
      exact noFr (List.mem_filterMap.mpr ⟨e, List.mem_cons_of_mem _ he, q⟩)
    -- the exception is none of the objects that were there
    have fresh : ∀ b o, sI.heap.get? b = some o → b ∉ frs X.stack → b ≠ a := fun b o e nf z => by
      have q := nb b o e nf
      rw [z, fl3.2.1] at q
      cases q
    have S3 := J3.suite g3 d3 na nL nF
    refine wpAny_handleBy_cons (codeAny_handlers_test ?_) (by intro q; cases q)
    have lookT : PySem.W.Looks (model X.prog X.w) h3 (typeOf (.ref a)) (.ref C) := fun A Q E s k q => wpAny_typeOf_ref (k _ _ g3) (by rw [z3.1]; exact q)
    have lookM := PySem.W.exm_one (M := model X.prog X.w) J3.kIn lookT match_
    have test : ∀ {Q : Value → Shared → Prop} {E : Value → Shared → Prop}, Q R { s' with heap := h3 } → wpAny (model X.prog X.w) (X.A.mark (some (.ref a))) (eval (.Name r np) X.env) Q E { s' with heap := h3 } := fun {Q E} q => by
      obtain ⟨hg, hdb, hm | ⟨hm, hv, hnn⟩⟩ := hR
      · exact ld_glob (X := X.suite a ((a, oe3) :: (X.pn ++ pins))) S3 hg hm q hdb
      · exact ld_blt (X := X.suite a ((a, oe3) :: (X.pn ++ pins))) S3 hg hm hv q hnn hdb
    refine test (lookM.here ?_)
    refine codeAny_handlers_suite_as ?_
    refine HandSPX.lands_againZ fl3 fun h4 fl4 up4 => ?_
    have J4 : Inv X pins σ' H' { s' with heap := h4 } := J.landed nb fl4.1 ((up.trans up3).trans up4) os ag
    obtain ⟨oe4, vs4, g4, z4, d4⟩ := fl4.there
    have S4 := J4.suite g4 d4 na nL nF
    refine store_ok (X := X.suite a ((a, oe4) :: (X.pn ++ pins))) (v := .ref a) S4 hN hj locN rfl (fun s5 S5 => ?_) (.inr hln)
    have hjl : j < σ'.length := by rw [J.len]; exact (List.getElem?_eq_some_iff.mp hj).1
    have suite := pss_one (ps_set (X := X.suite a ((a, oe4) :: (X.pn ++ pins))) (pos := pa) (i := i) (x := y) (pos' := py) hN hi hy (pe_var (pos := pn) hj (.inl hln) hdn hcn) rfl hfy)
    refine wpAny_mono (suite.run [] s5 _ H' { nx := fun σ6 H6 => σ6 = (σ'.set j (some (.ref a))).set i (some (.ref a)) ∧ H6 = H', rt := fun _ _ => False } S5 ⟨.ref a, by rw [List.getElem?_set_self hjl], rfl, rfl⟩) (fun f s6 out => ?_) (fun _ _ q => False.elim q)
    cases f with
    | next =>
      obtain ⟨σ6, H6, S6, e6, e7⟩ := out
      subst e6 e7
      have J6 : Inv X ((a, oe4) :: pins) ((σ'.set j (some (.ref a))).set i (some (.ref a))) H6 s6 := ⟨ok, S6.os, S6.bare, S6.base, S6.loc, S6.cell, S6.free, S6.freeC, fun p hp => S6.pin p (by
        show p ∈ (a, oe4) :: (X.pn ++ pins) ++ []
        rw [List.append_nil]
        rcases List.mem_append.mp hp with q | q
        · exact List.mem_cons_of_mem _ (List.mem_append_left _ q)
        · rcases List.mem_cons.mp q with q | q
          · rw [q]; exact List.mem_cons_self
          · exact List.mem_cons_of_mem _ (List.mem_append_right _ q)), S6.hok, S6.len⟩
      refine gone_ok J6 hN hj hln fun s7 J7 => ⟨_, _, Inv.adopt J7 z4.1 z4.2 d4 (fun o z => ?_) (fun p hp => ?_), yes a na⟩
      · by_cases hx : a ∈ X.ex
        · exact hx
        · obtain ⟨o', e'⟩ := J.base.there a o z hx
          exact absurd rfl (fresh a o' e' (by rw [hs]; exact noFr))
      · obtain ⟨e1, _, e3, e4, _⟩ := J.pin p hp
        refine fresh p.1 p.2 e1 fun hm => ?_
        rw [hs] at hm
        obtain ⟨e, he, q⟩ := List.mem_filterMap.mp hm
        rcases List.mem_cons.mp he with q2 | q2
        · rw [q2, hf] at q
          exact e3 (Option.some.inj q).symm
        · exact e4 (List.mem_filterMap.mpr ⟨e, q2, q⟩)
    | brk => obtain ⟨_, _, _, q⟩ := out; exact q.elim
    | cont => obtain ⟨_, _, _, q⟩ := out; exact q.elim
    | ret u => obtain ⟨_, _, _, _, _, q⟩ := out; exact q.elim
  · cases f with
    | next => obtain ⟨σ', H', J', q⟩ := out; exact wpAny_execs_nil ⟨σ', H', J'.ofTry ok, q⟩
    | brk => obtain ⟨σ', H', J', q⟩ := out; exact ⟨σ', H', J'.ofTry ok, q⟩
    | cont => obtain ⟨σ', H', J', q⟩ := out; exact ⟨σ', H', J'.ofTry ok, q⟩
    | ret u => obtain ⟨v, σ', H', J', rv, q⟩ := out; exact ⟨v, σ', H', J'.ofTry ok, rv, q⟩
end
section
variable {g : Gm} {E : En} {W : WX} {X : Cx} {pos : Pos}
/-- a slot that owns nothing, emptied -/
theorem SI.clear {H : Hp} {O : AP1} {σ : St} {ρ : Rho} {j : Nat} {s : Sl} {v : Option V} (S : SI g E H O σ ρ) (e : ρ[j]? = some s) (o : s.own = false) : SI g E H O (σ.set j v) (ρ.set j .no) := by
  have hl : j < ρ.length := (List.getElem?_eq_some_iff.mp e).1
  have out : ∀ {k : Nat} {t : Sl}, (ρ.set j Sl.no)[k]? = some t → t.own = true → j ≠ k ∧ ρ[k]? = some t := fun {k t} e o => by
    by_cases hk : j = k
    · subst hk
      rw [List.getElem?_set_self hl] at e
      cases e
      cases o
    · rw [List.getElem?_set_ne hk] at e
      exact ⟨hk, e⟩
  refine ⟨⟨by rw [List.length_set, List.length_set]; exact S.st.len, fun k w t e1 e2 => ?_, fun k l t u a e1 o1 e2 o2 f1 f2 => ?_, S.st.obj, S.st.tabs⟩, S.fr, fun b ⟨k, t, e1, o1, e2⟩ => ?_, S.o0, fun p hp => ?_⟩
  · by_cases hk : j = k
    · subst hk
      rw [List.getElem?_set_self hl] at e2
      cases e2
      exact .no
    · rw [List.getElem?_set_ne hk] at e1 e2
      exact S.st.at_ k w t e1 e2
  · obtain ⟨h1, g1⟩ := out e1 o1
    obtain ⟨h2, g2⟩ := out e2 o2
    rw [List.getElem?_set_ne h1] at f1
    rw [List.getElem?_set_ne h2] at f2
    exact S.st.one k l t u a g1 o1 g2 o2 f1 f2
  · obtain ⟨h1, g1⟩ := out e1 o1
    rw [List.getElem?_set_ne h1] at e2
    exact S.wn b ⟨k, t, g1, o1, e2⟩
  · obtain ⟨e1, d, e2⟩ := S.io p hp
    have hp1 : j ≠ p.1 := fun z => by
      rw [← z, e] at e2
      cases e2
      cases o
    exact ⟨by rw [List.getElem?_set_ne hp1]; exact e1, d, by rw [List.getElem?_set_ne hp1]; exact e2⟩
theorem ds_tryP (C : CtxOk g X) (P : Str → Prop) {r n y : Str} {R : Addr} {i j : Nat} {f f' : Rho → Re Out} (hf1 : ∀ ρ, f' ρ = f ρ ∨ f' ρ = .st) (hf2 : ∀ ρ x ρ1, f' ρ = .ex x ρ1 → P x.cls) {body : List Stmt} {np py pn pa pos' : Pos} (hs : X.stack = X.env :: X.outer) (hf : X.env.frame = some X.env.locals) (hi : X.N[i]? = some y) (hj : X.N[j]? = some n) (hij : i ≠ j)
    (hln : X.env.kindOf n = some .local) (hy : Loc X.env.scope y) (hfy : X.fn y = true ∨ X.env.scope.names.lookup y = some .local) (hdn : (n == ("__debug__" : Str)) = false) (hcn : (n == ("__classdict__" : Str)) = false)
    (hg : Gl X r) (hdr : (r == ("__debug__" : Str)) = false) (hm : g.mg r = some (.ref R)) (hR : ∀ x f C, XcF g x f C → P x → PySem.W.exmOne g.K (.ref C) (.ref R) = some true)
    (hb : ∀ (W : WX) (pn : List (Addr × Obj)) (xe : Value → Shared → Prop), Takes (X.tr pn xe) W → PassesOwn (model X.prog X.w) X.A X.env xe → PSs (X.tr pn xe) body (tS g W E f)) :
    PS X (.Try body [.ExceptHandler (some (.Name r np)) (some n) [.Assign [.Name y py] (.Name n pn) pa] pos'] [] [] pos) (tS g W E (tryV f' i j)) := by
  refine psImp (ps_note (R := .ref R) hs hf C.nd hi hj hij hln hy hfy hdn hcn ⟨hg, hdr, .inl (by rw [C.hmg]; exact hm)⟩ hb) fun D σ H ⟨O, ρ, S, q⟩ => ⟨O, ρ, S, ?_⟩
  unfold tryV at q
  have hP := hf2 ρ
  rcases hf1 ρ with z | z
  case inr => rw [z] at q; exact q.elim
  rw [z] at q hP
  cases ef : f ρ with
  | ok o ρ1 =>
    rw [ef] at q
    cases o with
    | nx => exact q
    | bk => exact q
    | ct => exact q
    | rt v => exact q
  | st => rw [ef] at q; exact q.elim
  | ex x ρ1 =>
    rw [ef] at q
    rintro c dx σ' H' O' S' ⟨Ca, d, fn, v, e, F, rfl, rfl, hd, nd, hfs, rv⟩
    dsimp only at q
    rw [hfs] at q
    dsimp only at q
    rw [if_pos hij] at q
    cases e1 : setSh i (.xc x.cls fn e) ρ1 with
    | none => rw [e1] at q; exact q.elim
    | some ρ2 =>
      rw [e1] at q
      cases e2 : setNo j ρ2 with
      | none => rw [Option.bind_some, e2] at q; exact q.elim
      | some ρ3 =>
        rw [Option.bind_some, e2] at q
        refine ⟨by rw [C.hK]; exact hR _ _ _ F (hP _ _ ef), Ca, d, rfl, rfl, fun a na => ?_⟩
        have S1 := S'.grow (H1 := upd H' a (exh a Ca d)) (.inr ⟨a, _, na, rfl⟩)
        have rd : RD g (upd H' a (exh a Ca d)) O' (.ref a) (.xc x.cls fn e) :=
          .xc F upd_same (fun z => S'.st.obj a z na) (by rw [upd_ne (ne_of_none hd na)]; exact hd) nd (rv.fr (up_fr na) fun _ z => z.elim)
        have S2 := S1.bnd (bnd_sh (v := .ref a) S1.st rd e1)
        obtain ⟨s, es, os, er⟩ : ∃ s, ρ2[j]? = some s ∧ s.own = false ∧ ρ3 = ρ2.set j .no := by
          unfold setNo at e2
          split at e2
          · rename_i q2; cases e2; exact ⟨_, q2, rfl, rfl⟩
          · rename_i q2; cases e2; exact ⟨_, q2, rfl, rfl⟩
          · cases e2
        subst er
        have S3 := S2.clear (v := none) es os
        have eσ : ((σ'.set j (some (.ref a))).set i (some (.ref a))).set j none = (σ'.set i (some (.ref a))).set j none := by
          rw [List.set_comm _ _ (Ne.symm hij), List.set_set]
        rw [eσ]
        exact q _ _ _ S3
theorem ds_try (C : CtxOk g X) {r n y : Str} {R : Addr} {i j : Nat} {f : Rho → Re Out} {body : List Stmt} {np py pn pa pos' : Pos} (hs : X.stack = X.env :: X.outer) (hf : X.env.frame = some X.env.locals) (hi : X.N[i]? = some y) (hj : X.N[j]? = some n) (hij : i ≠ j)
    (hln : X.env.kindOf n = some .local) (hy : Loc X.env.scope y) (hfy : X.fn y = true ∨ X.env.scope.names.lookup y = some .local) (hdn : (n == ("__debug__" : Str)) = false) (hcn : (n == ("__classdict__" : Str)) = false)
    (hg : Gl X r) (hdr : (r == ("__debug__" : Str)) = false) (hm : g.mg r = some (.ref R)) (hR : ∀ x f C, XcF g x f C → PySem.W.exmOne g.K (.ref C) (.ref R) = some true)
    (hb : ∀ (W : WX) (pn : List (Addr × Obj)) (xe : Value → Shared → Prop), Takes (X.tr pn xe) W → PassesOwn (model X.prog X.w) X.A X.env xe → PSs (X.tr pn xe) body (tS g W E f)) :
    PS X (.Try body [.ExceptHandler (some (.Name r np)) (some n) [.Assign [.Name y py] (.Name n pn) pa] pos'] [] [] pos) (tS g W E (tryV f i j)) :=
  ds_tryP C (fun _ => True) (fun _ => .inl rfl) (fun _ _ _ _ => trivial) hs hf hi hj hij hln hy hfy hdn hcn hg hdr hm (fun x f C F _ => hR x f C F) hb
theorem ds_tryC (C : CtxOk g X) {r n y : Str} {R : Addr} {i j : Nat} {f : Rho → Re Out} {body : List Stmt} {np py pn pa pos' : Pos} (hs : X.stack = X.env :: X.outer) (hf : X.env.frame = some X.env.locals) (hi : X.N[i]? = some y) (hj : X.N[j]? = some n) (hij : i ≠ j)
    (hln : X.env.kindOf n = some .local) (hy : Loc X.env.scope y) (hfy : X.fn y = true ∨ X.env.scope.names.lookup y = some .local) (hdn : (n == ("__debug__" : Str)) = false) (hcn : (n == ("__classdict__" : Str)) = false)
    (hg : Gl X r) (hdr : (r == ("__debug__" : Str)) = false) (hm : g.mg r = some (.ref R)) (hR : ∀ f C, XcF g r f C → PySem.W.exmOne g.K (.ref C) (.ref R) = some true)
    (hb : ∀ (W : WX) (pn : List (Addr × Obj)) (xe : Value → Shared → Prop), Takes (X.tr pn xe) W → PassesOwn (model X.prog X.w) X.A X.env xe → PSs (X.tr pn xe) body (tS g W E f)) :
    PS X (.Try body [.ExceptHandler (some (.Name r np)) (some n) [.Assign [.Name y py] (.Name n pn) pa] pos'] [] [] pos) (tS g W E (tryV (tryC r f) i j)) := by
  refine ds_tryP C (fun x => x = r) (fun ρ => ?_) (fun ρ x ρ1 e => ?_) hs hf hi hj hij hln hy hfy hdn hcn hg hdr hm (fun x f C F e => hR f C (e ▸ F)) hb
  · unfold tryC
    split
    · rename_i e; exact .inl e.symm
    · rename_i e
      split
      · exact .inl e.symm
      · exact .inr rfl
    · exact .inr rfl
  · unfold tryC at e
    split at e
    · cases e
    · split at e
      · rename_i h; cases e; exact h
      · cases e
    · cases e
end
end Wr
namespace Wr
open PySem PySem.Spec L2
open PyProof.Rows hiding St
def vName : Expr → Option Str
  | .Name x _ => some x
  | _ => none
def vConst : Expr → Option Const
  | .Constant k _ _ => some k
  | _ => none
def vBin : Expr → Option (Expr × Operator × Expr)
  | .BinOp a o b _ => some (a, o, b)
  | _ => none
def vUn : Expr → Option (UnaryOp × Expr)
  | .UnaryOp o a _ => some (o, a)
  | _ => none
def vCmp : Expr → Option (Expr × List CmpOp × List Expr)
  | .Compare a os bs _ => some (a, os, bs)
  | _ => none
def vBool : Expr → Option (BoolOp × List Expr)
  | .BoolOp o es _ => some (o, es)
  | _ => none
def vIf : Expr → Option (Expr × Expr × Expr)
  | .IfExp c a b _ => some (c, a, b)
  | _ => none
def vTup : Expr → Option (List Expr)
  | .Tuple es _ _ => some es
  | _ => none
def vStar : Expr → Option Expr
  | .Starred e _ => some e
  | _ => none
def vLst : Expr → Option (List Expr)
  | .List es _ => some es
  | _ => none
def vSub : Expr → Option (Expr × Expr)
  | .Subscript a i _ => some (a, i)
  | _ => none
def vSl : Expr → Option (Option Expr × Option Expr)
  | .Slice l h none _ => some (l, h)
  | _ => none
def vSls : Expr → Option (Option Expr × Option Expr × Expr)
  | .Slice l h (some t) _ => some (l, h, t)
  | _ => none
/-- a call of a name with plain arguments -/
def vCall : Expr → Option (Str × List Expr)
  | .Call (.Name x _) es [] _ => some (x, es)
  | _ => none
def vLc : Expr → Option (Expr × Expr × Expr × List Expr × Scope)
  | .ListComp e [⟨t, i, fs, 0⟩] sc _ => some (e, t, i, fs, sc)
  | _ => none
def vLc2 : Expr → Option (Expr × Expr × Expr × Expr × Expr × Scope)
  | .ListComp e [⟨t, i, [], 0⟩, ⟨t1, i1, [], 0⟩] sc _ => some (e, t, i, t1, i1, sc)
  | _ => none
/-- a method of two plain arguments -/
def vCallK : Expr → Option (Str × List Expr × List Keyword)
  | .Call (.Name x _) es ks _ => some (x, es, ks)
  | _ => none
def vMth2 : Expr → Option (Expr × Str × Expr × Expr)
  | .Call (.Attribute o a pa) [e, d] [] pc => if pa.endLine == pc.line then some (o, a, e, d) else none
  | _ => none
/-- a method without arguments -/
def vMth0 : Expr → Option (Expr × Str)
  | .Call (.Attribute o a pa) [] [] pc => if pa.endLine == pc.line then some (o, a) else none
  | _ => none
def vDct : Expr → Option (List (Option Expr) × List Expr)
  | .Dict ks es _ => some (ks, es)
  | _ => none
/-- keys that are texts -/
def kysB : List Str → List (Option Expr) → Bool
  | [], [] => true
  | x :: xs, some (.Constant (.str y) _ _) :: ks => decide (x = y) && kysB xs ks
  | _, _ => false
/-- a method of one plain argument -/
def vMth : Expr → Option (Expr × Str × Expr)
  | .Call (.Attribute o a pa) [e] [] pc => if pa.endLine == pc.line then some (o, a, e) else none
  | _ => none
/-- x(lambda: body) -/
def vTell : Expr → Option (Str × Expr × Scope)
  | .Call (.Name x _) [.Lambda ⟨[], [], none, [], [], none, []⟩ body sc _] [] _ => some (x, body, sc)
  | _ => none
/-- an attribute -/
def vAtt : Expr → Option (Expr × Str)
  | .Attribute o f _ => some (o, f)
  | _ => none
/-- what an attribute is asked of is no call -/
def baseB : Expr → Bool
  | .Call .. => false
  | _ => true
def notStarB : Expr → Bool
  | .Starred .. => false
  | _ => true
def notSliceB : Expr → Bool
  | .Slice .. => false
  | _ => true
def notSetB : Expr → Bool
  | .Set .. => false
  | _ => true
section
variable {e : Expr}
theorem vName_eq {x : Str} (h : vName e = some x) : ∃ p, e = .Name x p := by cases e <;> first | (cases h; exact ⟨_, rfl⟩) | cases h
theorem vConst_eq {k : Const} (h : vConst e = some k) : ∃ j p, e = .Constant k j p := by cases e <;> first | (cases h; exact ⟨_, _, rfl⟩) | cases h
theorem vBin_eq {a b : Expr} {o : Operator} (h : vBin e = some (a, o, b)) : ∃ p, e = .BinOp a o b p := by cases e <;> first | (cases h; exact ⟨_, rfl⟩) | cases h
theorem vUn_eq {a : Expr} {o : UnaryOp} (h : vUn e = some (o, a)) : ∃ p, e = .UnaryOp o a p := by cases e <;> first | (cases h; exact ⟨_, rfl⟩) | cases h
theorem vCmp_eq {a : Expr} {os : List CmpOp} {bs : List Expr} (h : vCmp e = some (a, os, bs)) : ∃ p, e = .Compare a os bs p := by cases e <;> first | (cases h; exact ⟨_, rfl⟩) | cases h
theorem vBool_eq {o : BoolOp} {bs : List Expr} (h : vBool e = some (o, bs)) : ∃ p, e = .BoolOp o bs p := by cases e <;> first | (cases h; exact ⟨_, rfl⟩) | cases h
theorem vIf_eq {a b c : Expr} (h : vIf e = some (c, a, b)) : ∃ p, e = .IfExp c a b p := by cases e <;> first | (cases h; exact ⟨_, rfl⟩) | cases h
/-- a display whose last item is starred -/
def vSt : List Expr → Option (List Expr × Expr)
  | [] => none
  | [.Starred e _] => some ([], e)
  | x :: r => (vSt r).map fun p => (x :: p.1, p.2)
theorem vSt_eq : ∀ {xs ys : List Expr} {z : Expr}, vSt xs = some (ys, z) → ∃ p, xs = ys ++ [.Starred z p]
  | [], _, _, h => by cases h
  | [x], ys, z, h => by
    cases x <;> first
      | (cases h; exact ⟨_, rfl⟩)
      | (cases h)
  | x :: y :: r, ys, z, h => by
    have h' : (vSt (y :: r)).map (fun p => (x :: p.1, p.2)) = some (ys, z) := by cases x <;> exact h
    obtain ⟨⟨us, w⟩, h1, h2⟩ := Option.map_eq_some_iff.mp h'
    obtain ⟨rfl, rfl⟩ := Prod.mk.inj h2
    obtain ⟨p, e⟩ := vSt_eq h1
    exact ⟨p, by rw [e]; rfl⟩
theorem vTup_eq {es : List Expr} (h : vTup e = some es) : ∃ k p, e = .Tuple es k p := by cases e <;> first | (cases h; exact ⟨_, _, rfl⟩) | cases h
theorem vStar_eq {z : Expr} (h : vStar e = some z) : ∃ p, e = .Starred z p := by cases e <;> first | (cases h; exact ⟨_, rfl⟩) | cases h
theorem vLst_eq {es : List Expr} (h : vLst e = some es) : ∃ p, e = .List es p := by cases e <;> first | (cases h; exact ⟨_, rfl⟩) | cases h
theorem vDct_eq {ks : List (Option Expr)} {es : List Expr} (h : vDct e = some (ks, es)) : ∃ p, e = .Dict ks es p := by cases e <;> first | (cases h; exact ⟨_, rfl⟩) | cases h
theorem vMth0_eq {o : Expr} {a : Str} (h : vMth0 e = some (o, a)) : ∃ pa pc, e = .Call (.Attribute o a pa) [] [] pc ∧ (pa.endLine == pc.line) = true := by
  unfold vMth0 at h
  split at h
  · split at h
    · rename_i hc
      cases h
      exact ⟨_, _, rfl, hc⟩
    · cases h
  · cases h
theorem vMth_eq {o b : Expr} {a : Str} (h : vMth e = some (o, a, b)) : ∃ pa pc, e = .Call (.Attribute o a pa) [b] [] pc ∧ (pa.endLine == pc.line) = true := by
  unfold vMth at h
  split at h
  · split at h
    · rename_i hc
      cases h
      exact ⟨_, _, rfl, hc⟩
    · cases h
  · cases h
theorem vTell_eq {x : Str} {body : Expr} {sc : Scope} (h : vTell e = some (x, body, sc)) : ∃ p1 p2 p3, e = .Call (.Name x p1) [.Lambda ⟨[], [], none, [], [], none, []⟩ body sc p2] [] p3 := by
  unfold vTell at h
  split at h
  · cases h; exact ⟨_, _, _, rfl⟩
  · cases h
theorem vAtt_eq {o : Expr} {f : Str} (h : vAtt e = some (o, f)) : ∃ p, e = .Attribute o f p := by cases e <;> first | (cases h; exact ⟨_, rfl⟩) | cases h
theorem vSub_eq {a i : Expr} (h : vSub e = some (a, i)) : ∃ p, e = .Subscript a i p := by cases e <;> first | (cases h; exact ⟨_, rfl⟩) | cases h
theorem vSl_eq {l u : Option Expr} (h : vSl e = some (l, u)) : ∃ p, e = .Slice l u none p := by
  cases e <;> first | (rename_i s p; cases s <;> first | (cases h; exact ⟨_, rfl⟩) | cases h) | cases h
theorem vSls_eq {l u : Option Expr} {t : Expr} (h : vSls e = some (l, u, t)) : ∃ p, e = .Slice l u (some t) p := by
  cases e <;> first | (rename_i s p; cases s <;> first | (cases h; exact ⟨_, rfl⟩) | cases h) | cases h
theorem vCall_eq {x : Str} {es : List Expr} (h : vCall e = some (x, es)) : ∃ q p, e = .Call (.Name x q) es [] p := by
  cases e <;> first | (rename_i f as ks p; cases f <;> first | (cases ks <;> first | (cases h; exact ⟨_, _, rfl⟩) | cases h) | cases h) | cases h
theorem vLc_eq {el t i : Expr} {fs : List Expr} {sc : Scope} (h : vLc e = some (el, t, i, fs, sc)) : ∃ p, e = .ListComp el [⟨t, i, fs, 0⟩] sc p := by
  unfold vLc at h
  split at h
  · cases h; exact ⟨_, rfl⟩
  · cases h
theorem vLc2_eq {el t i t1 i1 : Expr} {sc : Scope} (h : vLc2 e = some (el, t, i, t1, i1, sc)) : ∃ p, e = .ListComp el [⟨t, i, [], 0⟩, ⟨t1, i1, [], 0⟩] sc p := by
  unfold vLc2 at h
  split at h
  · cases h; exact ⟨_, rfl⟩
  · cases h
theorem vCallK_eq {x : Str} {es : List Expr} {ks : List Keyword} (h : vCallK e = some (x, es, ks)) : ∃ q p, e = .Call (.Name x q) es ks p := by
  unfold vCallK at h
  split at h
  · cases h; exact ⟨_, _, rfl⟩
  · cases h
theorem vMth2_eq {o b d : Expr} {a : Str} (h : vMth2 e = some (o, a, b, d)) : ∃ pa pc, e = .Call (.Attribute o a pa) [b, d] [] pc ∧ (pa.endLine == pc.line) = true := by
  unfold vMth2 at h
  split at h
  · split at h
    · rename_i hc
      cases h
      exact ⟨_, _, rfl, hc⟩
    · cases h
  · cases h
theorem notStar_of (h : notStarB e = true) : NotStar e := by cases e <;> first | exact fun _ _ => rfl | cases h
theorem plainIx_of (h : notSliceB e = true) : PlainIx e := by cases e <;> first | exact fun _ _ => rfl | cases h
theorem marks_of {op : CmpOp} (h : notSetB e = true) : behindInMarks op e = false := by cases e <;> first | rfl | cases h
end
/-- what is known of the module by names: defs, built-ins, written dicts, written numbers -/
structure MI where
  dn : Str → Bool
  po : Str → Bool
  kw : Str → List (Nat × List Str × List Nat)
  bn : Str → Bool
  gd : Str → Option (List (Str × GV))
  gc : Str → Option GC
  xn : Str → Option Str
  xi : Str → Bool
  tn : Str → Bool
structure KC extends MI where
  N : List Str
  sc : Scope
  fnb : Str → Bool
  lam : Bool
  hol : Bool
/-- the look at a lambda's body -/
def KC.inL (c : KC) (scope : Scope) : KC := { c with sc := scope, fnb := fun _ => false, lam := false, hol := false }
def visB (sc : Scope) (x : Str) : Bool := match sc.names.lookup x with
  | some .local => true
  | some .cell => true
  | some .free => true
  | _ => false
def locB (sc : Scope) (x : Str) : Bool := match sc.names.lookup x with
  | some .local => true
  | some .cell => true
  | _ => false
def glB (sc : Scope) (x : Str) : Bool := match sc.names.lookup x with
  | some .globalImplicit => true
  | _ => false
def plB (x : Str) : Bool := !(x == ("__debug__" : Str)) && !(x == ("__classdict__" : Str))
def KC.rd (c : KC) (i : Nat) (e : Expr) : Bool := match vName e with
  | some x => decide (c.N[i]? = some x) && visB c.sc x && plB x
  | none => false
/-- a built-in name -/
def KC.bi (c : KC) (x : Str) (n : String) : Bool := decide (x = (n : Str)) && glB c.sc x && c.bn x
def KC.tg1 (c : KC) (i : Nat) (e : Expr) : Bool := match vName e with
  | some x => decide (c.N[i]? = some x) && locB c.sc x && (c.fnb x || decide (c.sc.names.lookup x = some .local))
  | none => false
def KC.tgs (c : KC) : List Nat → List Expr → Bool
  | [], [] => true
  | i :: is, e :: es => c.tg1 i e && c.tgs is es
  | _, _ => false
def KC.tg (c : KC) : CT → Expr → Bool
  | .nm i, e => c.tg1 i e
  | .tp is, e => match vTup e with
    | some es => c.tgs is es
    | none => false
/-- names of own classes -/
def KC.cls (c : KC) : List Str → List Expr → Bool
  | [], [] => true
  | x :: xs, e :: es => (match vName e with
    | some y => decide (x = y) && glB c.sc x && c.xi x && decide (x ≠ ("ValueError" : Str)) && plB x
    | none => false) && c.cls xs es
  | _, _ => false
/-- the block's own slots by the target -/
def ownOf (N : List Str) (is : List Nat) : List (Str × Nat) := is.map fun i => (N.getD i ("" : Str), i)
def KC.blk (c : KC) (scope : Scope) : KC := { c with sc := relS scope c.sc, fnb := (fun x => scope.names.lookup x == some .cell), lam := false, hol := false }
def one2 {α : Type} : List α → Bool
  | [_] => true
  | [_, _] => true
  | _ => false
def few1 {α : Type} : List α → Bool
  | [] => true
  | [_] => true
  | _ => false
def some1 {α : Type _} : List α → Bool
  | [] => false
  | _ => true
mutual
def chkE : CE → KC → Expr → Bool
  | .var i, c, e => c.rd i e
  | .int i, _, e => match vConst e with
    | some (.int j) => decide (i = j)
    | _ => false
  | .bl b, _, e => match vConst e with
    | some (.bool j) => b == j
    | _ => false
  | .non, _, e => match vConst e with
    | some .none => true
    | _ => false
  | .str x, _, e => match vConst e with
    | some (.str y) => decide (x = y)
    | _ => false
  | .fnc x, c, e => match vName e with
    | some y => decide (x = y) && glB c.sc x && c.dn x && plB x
    | none => false
  | .bin op a b, c, e => match vBin e with
    | some (x, o, y) => decide (op = o) && chkE a c x && chkE b c y
    | none => false
  | .neg a, c, e => match vUn e with
    | some (o, x) => decide (o = .USub) && chkE a c x
    | none => false
  | .inv a, c, e => match vUn e with
    | some (o, x) => decide (o = .Invert) && chkE a c x
    | none => false
  | .cmp op a b, c, e => match vCmp e with
    | some (x, [o], [y]) => decide (op = o) && notSetB y && chkE a c x && chkE b c y
    | _ => false
  | .chn o p a b d, c, e => match vCmp e with
    | some (x, [o', p'], [y, z]) => decide (o = o') && decide (p = p') && notSetB z && chkE a c x && chkE b c y && chkE d c z
    | _ => false
  | .bop k es, c, e => match vBool e with
    | some (o, xs) => decide (o = bopOf k) && some1 xs && chkEs es c xs
    | none => false
  | .nt a, c, e => match vUn e with
    | some (o, x) => decide (o = .Not) && chkE a c x
    | none => false
  | .ite t a b, c, e => match vIf e with
    | some (x, y, z) => chkE t c x && chkE a c y && chkE b c z
    | none => false
  | .tup es, c, e => match vTup e with
    | some xs => chkEs es c xs
    | none => false
  | .tupS es a, c, e => match vTup e with
    | some xs => (match vSt xs with
      | some (ys, z) => chkEs es c ys && chkE a c z
      | none => false)
    | none => false
  | .lst es, c, e => match vLst e with
    | some xs => chkEs es c xs
    | none => false
  | .lstS a es, c, e => match vLst e with
    | some (y :: ys) => (match vStar y with
      | some z => chkE a c z && chkEs es c ys
      | none => false)
    | _ => false
  | .jn a b, c, e => match vMth e with
    | some (x, m, y) => decide (m = ("join" : Str)) && baseB x && notStarB y && chkE a c x && chkE b c y
    | none => false
  | .lnS a, c, e => match vCall e with
    | some (x, [y]) => c.bi x "len" && (match vCall y with
      | some (z, [w]) => c.bi z "set" && notStarB w && chkE a c w
      | _ => false)
    | _ => false
  | .srS _, _, _ => false
  | .srC _ _ _, _, _ => false
  | .dct xs es, c, e => match vDct e with
    | some (ks, vs) => kysB xs ks && decide (xs.length = vs.length) && decide (xs.length ≤ 15) && decide xs.Nodup && chkEs es c vs
    | none => false
  | .dctT, _, e => match vDct e with
    | some ([], []) => true
    | _ => false
  | .popL i, c, e => match vMth0 e with
    | some (x, m) => decide (m = ("pop" : Str)) && c.rd i x
    | none => false
  | .gd x kvs, c, e => match vName e with
    | some y => decide (x = y) && glB c.sc x && decide (c.gd x = some kvs) && plB x
    | none => false
  | .gc x d, c, e => match vName e with
    | some y => decide (x = y) && glB c.sc x && decide (c.gc x = some d) && plB x
    | none => false
  | .spl a b, c, e => match vMth e with
    | some (x, m, y) => decide (m = ("split" : Str)) && baseB x && notStarB y && chkE a c x && chkE b c y
    | none => false
  | .m0 m a, c, e => match vMth0 e with
    | some (x, n) => decide (n = (m.nm : Str)) && baseB x && chkE a c x
    | none => false
  | .ptn a b, c, e => match vMth e with
    | some (x, m, y) => decide (m = ("partition" : Str)) && baseB x && notStarB y && chkE a c x && chkE b c y
    | none => false
  | .ix a i, c, e => match vSub e with
    | some (x, y) => notSliceB y && chkE a c x && chkE i c y
    | none => false
  | .sl a l h, c, e => match vSub e with
    | some (x, y) => chkE a c x && (match vSl y with
      | some (u, v) => chkO l c u && chkO h c v
      | none => false)
    | none => false
  | .sls a l h st, c, e => match vSub e with
    | some (x, y) => chkE a c x && (match vSls y with
      | some (u, v, t) => chkO l c u && chkO h c v && chkE st c t
      | none => false)
    | none => false
  | .bi f es, c, e => match vCall e with
    | some (x, xs) => c.bi x f.nm && some1 xs && chkEs es c xs
    | none => false
  | .isi t a, c, e => match vCall e with
    | some (x, [y, z]) => c.bi x "isinstance" && notStarB y && chkE a c y && (match vName z with
      | some n => c.bi n t.nm
      | none => false)
    | _ => false
  | .hole i, c, e => match vCall e with
    | some (x, []) => c.hol && decide (c.N[i]? = some x) && visB c.sc x && plB x
    | _ => false
  | .tell t a, c, e => match vTell e with
    | some (x, b, sc) => decide (t = x) && c.lam && c.tn t && glB c.sc t && plB t && LamX.lamSB c.sc sc && chkE a (c.inL sc) b
    | none => false
  | .isx tp xs a, c, e => match vCall e with
    | some (x, [y, z]) => c.bi x "isinstance" && notStarB y && chkE a c y && (match tp with
      | true => (match vTup z with
        | some es => decide (es.length ≤ 1000) && c.cls xs es
        | none => false)
      | false => (match xs, vName z with
        | [n], some m => decide (n = m) && glB c.sc n && c.xi n && plB n
        | _, _ => false))
    | _ => false
  | .cnt a b, c, e => match vMth e with
    | some (x, m, y) => decide (m = ("count" : Str)) && baseB x && notStarB y && chkE a c x && chkE b c y
    | none => false
  | .idx a b, c, e => match vMth e with
    | some (x, m, y) => decide (m = ("index" : Str)) && baseB x && notStarB y && chkE a c x && chkE b c y
    | none => false
  | .att f a, c, e => match vAtt e with
    | some (x, n) => decide (f = n) && baseB x && chkE a c x
    | none => false
  | .rngL es, c, e => match vCall e with
    | some (x, [y]) => c.bi x "list" && (match vCall y with
      | some (z, xs) => c.bi z "range" && one2 xs && chkEs es c xs
      | none => false)
    | _ => false
  | .rngT es, c, e => match vCall e with
    | some (x, [y]) => c.bi x "tuple" && (match vCall y with
      | some (z, xs) => c.bi z "range" && one2 xs && chkEs es c xs
      | none => false)
    | _ => false
  | .call f as, c, e => match vCall e with
    | some (x, xs) => decide (f = x) && glB c.sc x && (c.dn x && c.po x) && plB x && some1 xs && chkA as c xs
    | none => false
  | .callK f n as ks es pm, c, e => match vCallK e with
    | some (x, xs, kws) => decide (f = x) && glB c.sc x && c.dn x && decide ((n, ks, pm) ∈ c.kw x) && plB x && decide (kws.map (·.arg) = ks.map some) && chkA as c xs && chkEs es c (kws.map (·.value))
    | none => false
  | .call0 f, c, e => match vCall e with
    | some (x, []) => decide (f = x) && glB c.sc x && (c.dn x && c.po x) && plB x
    | _ => false
  | .callF f a, c, e => match vCall e with
    | some (x, [y]) => decide (f = x) && glB c.sc x && (c.dn x && c.po x) && plB x && notStarB y && chkE a c y
    | _ => false
  | .callV i fs as, c, e => match vCall e with
    | some (x, xs) => decide (c.N[i]? = some x) && visB c.sc x && plB x && fs.all (fun y => c.dn y && c.po y) && some1 xs && chkA as c xs
    | none => false
  | .dget a k d, c, e => match vMth2 e with
    | some (x, m, y, z) => decide (m = ("get" : Str)) && baseB x && notStarB y && notStarB z && chkE a c x && chkE k c y && chkE d c z
    | none => false
  | .lc2 tg it tg1 it1 el, c, e => match vLc2 e with
    | some (x, t, i, t1, i1, sc) => chkI it c i t && notSetB i && notSetB i1 && blkC c.N c.sc sc (ownOf c.N (tg.ix ++ tg1.ix)) && (c.blk sc).tg tg t && (c.blk sc).tg tg1 t1 && chkI it1 (c.blk sc) i1 t1 && chkE el (c.blk sc) x
    | none => false
  | .lc tg it ifs el, c, e => match vLc e with
    | some (x, t, i, fs, sc) => chkI it c i t && notSetB i && blkC c.N c.sc sc (ownOf c.N tg.ix) && (c.blk sc).tg tg t && few1 fs && chkEs ifs (c.blk sc) fs && chkE el (c.blk sc) x
    | none => false
def chkO : CO → KC → Option Expr → Bool
  | .none, _, none => true
  | .some a, c, some e => chkE a c e
  | _, _, _ => false
def chkEs : CEs → KC → List Expr → Bool
  | .nil, _, [] => true
  | .cons a as, c, e :: es => chkE a c e && notStarB e && chkEs as c es
  | _, _, _ => false
def chkA : CAs → KC → List Expr → Bool
  | .nil, _, [] => true
  | .ex a as, c, e :: es => chkE a c e && notStarB e && chkA as c es
  | .io j as, c, e :: es => c.rd j e && chkA as c es
  | _, _, _ => false
/-- .. of what is walked, with the target -/
def chkI : CI → KC → Expr → Expr → Bool
  | .ex a, c, e, _ => chkE a c e
  | .rng es, c, e, _ => match vCall e with
    | some (x, xs) => c.bi x "range" && one2 xs && chkEs es c xs
    | none => false
  | .rng3 es, c, e, _ => match vCall e with
    | some (x, xs) => c.bi x "range" && decide (xs.length = 3) && chkEs es c xs
    | none => false
  | .sgn a, c, e, _ => chkE a c e
  | .rrng es, c, e, _ => match vCall e with
    | some (y, [z]) => (match vCall z with
      | some (x, xs) => c.bi y "reversed" && c.bi x "range" && one2 xs && chkEs es c xs
      | none => false)
    | _ => false
  | .enu a, c, e, t => match vCall e with
    | some (x, [y]) => c.bi x "enumerate" && notStarB y && chkE a c y && (match vTup t with
      | some _ => true
      | none => false)
    | _ => false
  | .zip a b, c, e, t => match vCall e with
    | some (x, [y, z]) => c.bi x "zip" && notStarB y && notStarB z && chkE a c y && chkE b c z && (match vTup t with
      | some _ => true
      | none => false)
    | _ => false
end
end Wr
namespace Wr
open PySem PySem.Spec L2
open PyProof.Rows hiding St
/-- .. as the module holds it -/
structure MF (g : Gm) (m : MI) : Prop where
  bn : ∀ x, m.bn x = true → g.mg x = none
  gd : ∀ x kvs, m.gd x = some kvs → ∃ d, g.mg x = some (.ref d) ∧ KDs g d kvs
  gc : ∀ x d, m.gc x = some d → ∃ v u, g.mg x = some u ∧ RelV v u ∧ GVal g v d
  xn : ∀ x f, m.xn x = some f → ∃ C, XcF g x f C
  xi : ∀ y, m.xi y = true → ((∃ D, g.mg y = some (.ref D)) ∨ (y = ("ValueError" : Str) ∧ g.mg y = none)) ∧ ∀ x ∈ g.xs, XiF g x y
  nd : PySem.W.nsIn g.K cStatics "sys.int_max_str_digits" = some none
  xo : ∀ x f C, m.xn x = some f → XcF g x f C → PySem.W.exmOne g.K (.ref C) (.ref C) = some true
  xr : m.xi "ReachError" = true → ∃ R, g.mg "ReachError" = some (.ref R) ∧ ∀ x f C, XcF g x f C → PySem.W.exmOne g.K (.ref C) (.ref R) = some true
/-- a def that is given a lambda and calls it in a try, told of X -/
def TellK (g : Gm) (cf : Fn) (X : Cx) (t : Str) : Prop := ∀ (W : WX) (body : Expr) (scope : Scope) (p1 p2 p3 : Pos) (s : Sm), Gl X t → (t == ("__debug__" : Str)) = false → LamX.LamS X.env.scope scope →
  (∀ (A : Around) (outer : List Env) (s0 : Shared) (H : Hp) (E : XK) (f c' : Addr), A.guards = some [] → (∀ k, Room (k + 2) X.A → Room k (A.deeper (LamX.lamEnv X scope s0.heap.objs.size f c'))) →
    PE (LamX.lamCx X A outer s0 H E scope f c') body (tE g (fun cls d _ H => E cls d H) s.v)) →
  PE X (.Call (.Name t p1) [.Lambda ⟨[], [], none, [], [], none, []⟩ body scope p2] [] p3) (tE g W (tellV cf t s))
def slk (b : Bool) : Nat := if b = true then 2 else 0
structure CtxK (g : Gm) (cf : Fn) (W : WX) (X : Cx) (c : KC) : Prop where
  C : CtxOk g X
  N : X.N = c.N
  sc : X.env.scope = c.sc
  tk : Takes X W
  fn : ∀ x, c.fnb x = true → X.fn x = true
  df : ∀ x, c.dn x = true → ∃ k f fd ps, FnG g X.prog X.w X.base k f fd ps (spF g (cf x)) ∧ Room (k + slk c.lam) X.A ∧ g.mg x = some (.ref f) ∧ PySem.W.keepIn g.K (.ref f) = true ∧ (c.po x = true → Binds g.K fd ps []) ∧ ∀ q ∈ c.kw x, KBn fd ps q.1 q.2.1 q.2.2
  mf : MF g c.toMI
  rm : Room (2 + slk c.lam) X.A
  tl : c.lam = true → ∀ t, c.tn t = true → TellK g cf X t
  ho : c.hol = true → ∀ (W' : WX) (pn : List (Addr × Obj)) (xe : Value → Shared → Prop), Takes (X.tr pn xe) W' → ∀ (i : Nat) (a : Str) (p1 p2 : Pos), X.N[i]? = some a → Vis X.env.scope a → (a == ("__debug__" : Str)) = false → (a == ("__classdict__" : Str)) = false →
    PE (X.tr pn xe) (.Call (.Name a p1) [] [] p2) (tE g W' (holeV i))
theorem CtxK.tr {g : Gm} {cf : Fn} {W W' : WX} {X : Cx} {c : KC} {pn : List (Addr × Obj)} {xe : Value → Shared → Prop} (Z : CtxK g cf W X c) (tk : Takes (X.tr pn xe) W') : CtxK g cf W' (X.tr pn xe) { c with lam := false } :=
  ⟨⟨Z.C.hK, Z.C.hmg, Z.C.hP, Z.C.calm, Z.C.nd, Z.C.gd, Z.C.un⟩, Z.N, Z.sc, tk, Z.fn, fun x hx => by
    obtain ⟨k, f, fd, ps, F, hr, h⟩ := Z.df x hx
    exact ⟨k, f, fd, ps, F, hr.mono (show k + 0 ≤ k + slk c.lam by omega), h⟩, Z.mf, Z.rm.mono (show 2 + 0 ≤ 2 + slk c.lam by omega), (fun h => nomatch h), fun h W' pn xe tk => Z.ho h W' pn xe tk⟩
theorem takesF {X : Cx} : Takes X WF := fun u s h => by
  obtain ⟨_, _, _, _, _, _, _, _, _, _, _, _, _, _, _, _, z⟩ := h
  exact z.elim
theorem CtxK.blk {g : Gm} {cf : Fn} {W : WX} {X : Cx} {c : KC} (Z : CtxK g cf W X c) (s : Shared) (H : Hp) (scope : Scope) (cl : List (Str × Addr)) (C : Addr) (fp : List Addr) :
    CtxK g cf WF (X.blk s H scope (compEnvC scope cl C X.env) fp) (c.blk scope) :=
  ⟨Z.C.blk s H scope _ fp, Z.N, by show relS scope X.env.scope = relS scope c.sc; rw [Z.sc], takesF, fun _ h => h, fun x hx => by
    obtain ⟨k, f, fd, ps, F, hr, h⟩ := Z.df x hx
    exact ⟨k, f, fd, ps, F, hr.mono (show k + 0 ≤ k + slk c.lam by omega), h⟩, Z.mf, Z.rm.mono (show 2 + 0 ≤ 2 + slk c.lam by omega), (fun h => nomatch h), (fun h => nomatch h)⟩
theorem and3 {a b : Bool} (h : (a && b) = true) : a = true ∧ b = true := by cases a <;> cases b <;> first | exact ⟨rfl, rfl⟩ | cases h
section
variable {g : Gm} {cf : Fn} {W : WX} {X : Cx} {c : KC} (Z : CtxK g cf W X c)
include Z
theorem CtxK.vis {x : Str} (h : visB c.sc x = true) : Vis X.env.scope x := by
  rw [Z.sc]
  unfold visB at h
  split at h
  · rename_i q; exact .inl q
  · rename_i q; exact .inr (.inl q)
  · rename_i q; exact .inr (.inr q)
  · cases h
theorem CtxK.loc {x : Str} (h : locB c.sc x = true) : Loc X.env.scope x := by
  rw [Z.sc]
  unfold locB at h
  split at h
  · rename_i q; exact .inl q
  · rename_i q; exact .inr q
  · cases h
theorem CtxK.gl {x : Str} (h : glB c.sc x = true) : Gl X x := by
  show X.env.scope.names.lookup x = _
  rw [Z.sc]
  unfold glB at h
  split at h
  · assumption
  · cases h
omit Z in
theorem plB_ok {x : Str} (h : plB x = true) : (x == ("__debug__" : Str)) = false ∧ (x == ("__classdict__" : Str)) = false := by
  unfold plB at h
  obtain ⟨h1, h2⟩ := and3 h
  exact ⟨by simpa using h1, by simpa using h2⟩
theorem CtxK.rdv {i : Nat} {e : Expr} (h : c.rd i e = true) : ∃ x p, e = .Name x p ∧ X.N[i]? = some x ∧ Vis X.env.scope x ∧ (x == ("__debug__" : Str)) = false ∧ (x == ("__classdict__" : Str)) = false := by
  unfold KC.rd at h
  split at h
  · rename_i x ex
    obtain ⟨h1, h2⟩ := and3 h
    obtain ⟨h3, h4⟩ := and3 h1
    obtain ⟨p, rfl⟩ := vName_eq ex
    exact ⟨x, p, rfl, by rw [Z.N]; exact of_decide_eq_true h3, Z.vis h4, plB_ok h2⟩
  · cases h
theorem CtxK.bi_ok {x : Str} {n : String} (h : c.bi x n = true) : x = (n : Str) ∧ Gl X x ∧ X.mg x = none := by
  unfold KC.bi at h
  obtain ⟨h1, h2⟩ := and3 h
  obtain ⟨h3, h4⟩ := and3 h1
  exact ⟨of_decide_eq_true h3, Z.gl h4, by rw [Z.C.hmg]; exact Z.mf.bn _ h2⟩
theorem CtxK.tg1_ok {i : Nat} {e : Expr} (h : c.tg1 i e = true) : PG X e (gName i) ∧ ∃ x p, e = .Name x p ∧ X.N[i]? = some x ∧ Loc X.env.scope x ∧ (X.fn x = true ∨ X.env.scope.names.lookup x = some .local) := by
  unfold KC.tg1 at h
  split at h
  · rename_i x ex
    obtain ⟨h1, h2⟩ := and3 h
    obtain ⟨h3, h4⟩ := and3 h1
    obtain ⟨p, rfl⟩ := vName_eq ex
    have hN : X.N[i]? = some x := by rw [Z.N]; exact of_decide_eq_true h3
    have hf : X.fn x = true ∨ X.env.scope.names.lookup x = some .local := by
      rw [Z.sc]
      cases q : c.fnb x with
      | true => exact .inl (Z.fn _ q)
      | false =>
        rw [q] at h2
        exact .inr (of_decide_eq_true h2)
    exact ⟨pg_name Z.C.nd hN (Z.loc h4) hf, x, p, rfl, hN, Z.loc h4, hf⟩
  · cases h
theorem CtxK.tgs_ok : ∀ {is : List Nat} {es : List Expr}, c.tgs is es = true → PGs X es (gNs is) ∧ (assignEach es X.env).length = is.length ∧ (assignEach es X.env).findIdx? (·.1) = none
  | [], [], _ => ⟨pgs_nil, rfl, rfl⟩
  | [], _ :: _, h => by cases h
  | _ :: _, [], h => by cases h
  | i :: is, e :: es, h => by
    obtain ⟨h1, h2⟩ := and3 (show (c.tg1 i e && c.tgs is es) = true from h)
    obtain ⟨p1, x, p, rfl, hN, hl, hf⟩ := Z.tg1_ok h1
    obtain ⟨p2, l2, f2⟩ := CtxK.tgs_ok h2
    refine ⟨pgs_cons p1 p2 rfl, ?_, ?_⟩
    · show (_ :: assignEach es X.env).length = _
      rw [List.length_cons, l2, List.length_cons]
    · show List.findIdx? (·.1) ((false, assign (.Name x p) X.env) :: assignEach es X.env) = none
      rw [List.findIdx?_cons, f2]
      rfl
theorem CtxK.tg_ok {ct : CT} {e : Expr} (h : c.tg ct e = true) : PG X e (gT X.K ct) := by
  cases ct with
  | nm i => exact (Z.tg1_ok h).1
  | tp is =>
    have h' : (match vTup e with
      | some es => c.tgs is es
      | none => false) = true := h
    split at h'
    · rename_i es ees
      obtain ⟨k, p, rfl⟩ := vTup_eq ees
      obtain ⟨h1, h2, h3⟩ := Z.tgs_ok h'
      exact pg_tup Z.C.calm h1 h2 h3
    · cases h'
theorem CtxK.own_ok {is : List Nat} : (ownOf c.N is).map (·.2) = is := by
  unfold ownOf
  rw [List.map_map]
  exact List.map_id _
omit Z in
theorem one2_len {es : List Expr} (h : one2 es = true) : es.length = 1 ∨ es.length = 2 := by
  match es, h with
  | [_], _ => exact .inl rfl
  | [_, _], _ => exact .inr rfl
omit Z in
theorem some1_ne {es : List Expr} (h : some1 es = true) : es ≠ [] := fun z => by subst z; cases h
/-- and / or of several -/
theorem es_bop {k : Bool} {pos : Pos} : ∀ {es : List Expr} {ss : List Sm}, Paired (AS g W X) es ss → some1 es = true → PE X (.BoolOp (bopOf k) es pos) (tE g W (evO k ss)) ∧ PW X (.BoolOp (bopOf k) es pos) (tQ g W (evTo k ss))
  | [], _, .nil, h => by cases h
  | [e], _, .cons h .nil, _ => ⟨do_one Z.C h.es.v, dw_one Z.C h.es.t⟩
  | e :: e' :: es, _, .cons h (.cons h' hs), _ => by
    obtain ⟨q1, q2⟩ := es_bop (k := k) (pos := pos) (.cons h' hs) rfl
    exact ⟨do_cons Z.C h.es.v q1, dw_cons Z.C h.es.t q2⟩
theorem pts_few : ∀ {es : List Expr} {ss : List Sm}, Paired (AS g W X) es ss → few1 es = true → PTs X es (tQ g W (evTs ss))
  | [], _, .nil, _ => ts_nil
  | [e], _, .cons h .nil, _ => ts_one h.es.t
  | _ :: _ :: _, _, .cons _ (.cons _ _), h => by cases h
end
theorem base_of {env : Env} {m : Str} {e : Expr} (h : baseB e = true) : attributeBase e m env (eval e env) = eval e env := by
  cases e <;> first | rfl | cases h
theorem kys_of : ∀ {xs : List Str} {ks : List (Option Expr)}, kysB xs ks = true → KyS ks xs
  | [], [], _ => .nil
  | [], _ :: _, h => by cases h
  | _ :: _, [], h => by cases h
  | x :: xs, k :: ks, h => by
    unfold kysB at h
    split at h
    · rename_i e1 e2; cases e1
    · rename_i e1 e2
      cases e1
      cases e2
      obtain ⟨h1, h2⟩ := and3 h
      cases of_decide_eq_true h1
      exact .cons (kys_of h2)
    · cases h
section
variable {g : Gm} {cf : Fn}
theorem CtxK.inL {g : Gm} {cf : Fn} {W : WX} {X : Cx} {c : KC} (Z : CtxK g cf W X c) (hl : c.lam = true) {scope : Scope} (L : LamX.LamS X.env.scope scope) {A : Around} {outer : List Env} {s0 : Shared} {H : Hp} {E : XK} {f c' : Addr} (gds : A.guards = some [])
    (hr : ∀ k, Room (k + 2) X.A → Room k (A.deeper (LamX.lamEnv X scope s0.heap.objs.size f c'))) : CtxK g cf (fun cls d _ H => E cls d H) (LamX.lamCx X A outer s0 H E scope f c') (c.inL scope) := by
  have e2 : slk c.lam = 2 := by rw [hl]; rfl
  have r2 : Room 2 (A.deeper (LamX.lamEnv X scope s0.heap.objs.size f c')) := hr 2 (by have := Z.rm; rwa [e2] at this)
  exact ⟨⟨Z.C.hK, Z.C.hmg, Z.C.hP, rfl, Z.C.nd, gds, by have := r2.un; show (A.deeper _).units + 64 < cLine; omega⟩, Z.N, rfl, takes_of rfl rfl rfl rfl, (fun _ h => nomatch h), fun x hx => by
    obtain ⟨k, fa, fd, ps, F, hr1, h⟩ := Z.df x hx
    rw [e2] at hr1
    exact ⟨k, fa, fd, ps, F, hr k hr1, h⟩, Z.mf, r2, (fun h => nomatch h), (fun h => nomatch h)⟩
theorem CtxK.df1 {g : Gm} {cf : Fn} {W : WX} {X : Cx} {c : KC} (Z : CtxK g cf W X c) (x : Str) (hx : c.dn x = true) : ∃ k f fd ps, FnG g X.prog X.w X.base k f fd ps (spF g (cf x)) ∧ Room k X.A ∧ g.mg x = some (.ref f) ∧ PySem.W.keepIn g.K (.ref f) = true ∧ (c.po x = true → Binds g.K fd ps []) ∧ ∀ q ∈ c.kw x, KBn fd ps q.1 q.2.1 q.2.2 := by
  obtain ⟨k, f, fd, ps, F, hr, h⟩ := Z.df x hx
  exact ⟨k, f, fd, ps, F, hr.mono (by omega), h⟩
theorem CtxK.cls_ok {g : Gm} {cf : Fn} {W : WX} {X : Cx} {c : KC} (Z : CtxK g cf W X c) : ∀ {xs : List Str} {es : List Expr}, c.cls xs es = true → ∃ Ds, ClsN g X es xs Ds
  | [], [], _ => ⟨[], .nil⟩
  | [], _ :: _, h => by cases h
  | _ :: _, [], h => by cases h
  | x :: xs, e :: es, h => by
    unfold KC.cls at h
    obtain ⟨h1, h2⟩ := and3 h
    split at h1
    · rename_i y ey
      obtain ⟨p, rfl⟩ := vName_eq ey
      obtain ⟨h1, h3⟩ := and3 h1
      obtain ⟨h1, h4⟩ := and3 h1
      obtain ⟨h1, h5⟩ := and3 h1
      obtain ⟨h1, h6⟩ := and3 h1
      cases of_decide_eq_true h1
      obtain ⟨Ds, ih⟩ := cls_ok Z h2
      obtain ⟨hd, hi⟩ := Z.mf.xi _ h5
      rcases hd with ⟨D, hD⟩ | ⟨hv, _⟩
      · exact ⟨D :: Ds, .cons (Z.gl h6) (plB_ok h3).1 hD hi ih⟩
      · exact absurd hv (of_decide_eq_true h4)
    · cases h1
set_option maxHeartbeats 4000000
mutual
theorem chkE_ok : ∀ (ce : CE) {W : WX} {X : Cx} {c : KC} {e : Expr}, CtxK g cf W X c → chkE ce c e = true → ES g W X e (sm cf ce)
  | .var i, W, X, c, e, Z, h => by
    obtain ⟨x, p, rfl, hN, hv, h1, h2⟩ := Z.rdv (show c.rd i e = true from h)
    exact es_var Z.C hN hv h1 h2
  | .int i, W, X, c, e, Z, h => by
    unfold chkE at h
    split at h
    · rename_i j ej
      obtain ⟨_, _, rfl⟩ := vConst_eq ej
      cases of_decide_eq_true h
      exact es_of Z.C (de_const pe_int fun _ _ => .int _) fun _ => rfl
    · cases h
  | .bl b, W, X, c, e, Z, h => by
    unfold chkE at h
    split at h
    · rename_i j ej
      obtain ⟨_, _, rfl⟩ := vConst_eq ej
      have hb : b = j := by simpa using h
      subst hb
      exact es_of Z.C (de_const pe_bl fun _ _ => .bl _) fun _ => rfl
    · cases h
  | .non, W, X, c, e, Z, h => by
    unfold chkE at h
    split at h
    · rename_i ej
      obtain ⟨_, _, rfl⟩ := vConst_eq ej
      exact es_of Z.C (de_const pe_non fun _ _ => .non) fun _ => rfl
    · cases h
  | .str x, W, X, c, e, Z, h => by
    unfold chkE at h
    split at h
    · rename_i j ej
      obtain ⟨_, _, rfl⟩ := vConst_eq ej
      cases of_decide_eq_true h
      exact es_of Z.C (de_const pe_str fun _ _ => .str _) fun _ => rfl
    · cases h
  | .fnc x, W, X, c, e, Z, h => by
    unfold chkE at h
    split at h
    · rename_i y ey
      obtain ⟨_, rfl⟩ := vName_eq ey
      obtain ⟨h1, h2⟩ := and3 h
      obtain ⟨h3, h4⟩ := and3 h1
      obtain ⟨h5, h6⟩ := and3 h3
      cases of_decide_eq_true h5
      obtain ⟨k, f, fd, ps, _, _, hm, _, _, _⟩ := Z.df _ h4
      exact es_of Z.C (de_fnc Z.C (Z.gl h6) (by rw [Z.C.hmg]; exact hm) (plB_ok h2).1) fun _ => rfl
    · cases h
  | .bin op a b, W, X, c, e, Z, h => by
    unfold chkE at h
    split at h
    · rename_i x o y q
      obtain ⟨p, rfl⟩ := vBin_eq q
      obtain ⟨h1, h2⟩ := and3 h
      obtain ⟨h3, h4⟩ := and3 h1
      cases of_decide_eq_true h3
      exact es_of Z.C (de_bin Z.C (chkE_ok a Z h4).o (chkE_ok b Z h2).o) fun _ => rfl
    · cases h
  | .neg a, W, X, c, e, Z, h => by
    unfold chkE at h
    split at h
    · rename_i o x q
      obtain ⟨p, rfl⟩ := vUn_eq q
      obtain ⟨h1, h2⟩ := and3 h
      cases of_decide_eq_true h1
      exact es_of Z.C (de_neg (chkE_ok a Z h2).o) fun _ => rfl
    · cases h
  | .inv a, W, X, c, e, Z, h => by
    unfold chkE at h
    split at h
    · rename_i o x q
      obtain ⟨p, rfl⟩ := vUn_eq q
      obtain ⟨h1, h2⟩ := and3 h
      cases of_decide_eq_true h1
      exact es_of Z.C (de_inv (chkE_ok a Z h2).o) fun _ => rfl
    · cases h
  | .cmp op a b, W, X, c, e, Z, h => by
    unfold chkE at h
    split at h
    · rename_i x o y q
      obtain ⟨p, rfl⟩ := vCmp_eq q
      obtain ⟨h1, h2⟩ := and3 h
      obtain ⟨h3, h4⟩ := and3 h1
      obtain ⟨h5, h6⟩ := and3 h3
      cases of_decide_eq_true h5
      exact es_cmp Z.C (chkE_ok a Z h4) (chkE_ok b Z h2) (marks_of h6)
    · cases h
  | .chn o p a b d, W, X, c, e, Z, h => by
    unfold chkE at h
    split at h
    · rename_i x o' p' y z q
      obtain ⟨pp, rfl⟩ := vCmp_eq q
      obtain ⟨h1, h2⟩ := and3 h
      obtain ⟨h3, h4⟩ := and3 h1
      obtain ⟨h5, h6⟩ := and3 h3
      obtain ⟨h7, h8⟩ := and3 h5
      obtain ⟨h9, h10⟩ := and3 h7
      cases of_decide_eq_true h9
      cases of_decide_eq_true h10
      exact es_chain Z.C (chkE_ok a Z h6) (chkE_ok b Z h4) (chkE_ok d Z h2) (marks_of h8)
    · cases h
  | .bop k es, W, X, c, e, Z, h => by
    unfold chkE at h
    split at h
    · rename_i o xs q
      obtain ⟨pp, rfl⟩ := vBool_eq q
      obtain ⟨h1, h2⟩ := and3 h
      obtain ⟨h3, h4⟩ := and3 h1
      cases of_decide_eq_true h3
      obtain ⟨q1, q2⟩ := es_bop (k := k) (pos := pp) Z (chkEs_ok es Z h2) h4
      exact es_vt Z.C q1 q2.pt
    · cases h
  | .nt a, W, X, c, e, Z, h => by
    unfold chkE at h
    split at h
    · rename_i o x q
      obtain ⟨p, rfl⟩ := vUn_eq q
      obtain ⟨h1, h2⟩ := and3 h
      cases of_decide_eq_true h1
      have q := chkE_ok a Z h2
      exact es_vt Z.C (de_not Z.C q.o) (dt_not q.t)
    · cases h
  | .ite t a b, W, X, c, e, Z, h => by
    unfold chkE at h
    split at h
    · rename_i x y z q
      obtain ⟨p, rfl⟩ := vIf_eq q
      obtain ⟨h1, h2⟩ := and3 h
      obtain ⟨h3, h4⟩ := and3 h1
      have q := de_ite (pos := p) (chkE_ok t Z h3).t (chkE_ok a Z h4).v (chkE_ok b Z h2).v
      exact es_vt Z.C q ⟨fun _ _ _ _ _ _ ⟨_, _, _, z⟩ => z.elim⟩
    · cases h
  | .tupS es a, W, X, c, e, Z, h => by
    unfold chkE at h
    split at h
    · rename_i xs q
      obtain ⟨_, p, rfl⟩ := vTup_eq q
      split at h
      · rename_i ys z q2
        obtain ⟨p2, rfl⟩ := vSt_eq q2
        obtain ⟨h1, h2⟩ := and3 h
        exact es_of Z.C (de_tupS Z.C.hK (chkE_ok a Z h2) (chkEs_ok es Z h1)) fun _ => rfl
      · cases h
    · cases h
  | .tup es, W, X, c, e, Z, h => by
    unfold chkE at h
    split at h
    · rename_i xs q
      obtain ⟨_, p, rfl⟩ := vTup_eq q
      exact es_of Z.C (de_tup (chkEs_ok es Z h)) fun _ => rfl
    · cases h
  | .lst es, W, X, c, e, Z, h => by
    unfold chkE at h
    split at h
    · rename_i xs q
      obtain ⟨p, rfl⟩ := vLst_eq q
      exact es_of Z.C (de_lst (chkEs_ok es Z h)) fun _ => rfl
    · cases h
  | .lstS a es, W, X, c, e, Z, h => by
    unfold chkE at h
    split at h
    · rename_i y ys q
      obtain ⟨p, rfl⟩ := vLst_eq q
      split at h
      · rename_i z q2
        obtain ⟨p2, rfl⟩ := vStar_eq q2
        obtain ⟨h1, h2⟩ := and3 h
        exact es_of Z.C (de_lstS Z.C.hK (chkE_ok a Z h1) (chkEs_ok es Z h2)) fun _ => rfl
      · cases h
    · cases h
  | .jn a b, W, X, c, e, Z, h => by
    unfold chkE at h
    split at h
    · rename_i x m y ey
      obtain ⟨pa, pc, rfl, hl⟩ := vMth_eq ey
      obtain ⟨h1, hb⟩ := and3 h
      obtain ⟨h2, ha⟩ := and3 h1
      obtain ⟨h3, hs⟩ := and3 h2
      obtain ⟨h4, hv⟩ := and3 h3
      cases of_decide_eq_true h4
      exact es_of Z.C (de_jn Z.C.hK (chkE_ok a Z ha).v (chkE_ok b Z hb).v (notStar_of hs [] _) (base_of hv) hl) fun _ => rfl
    · cases h
  | .lnS a, W, X, c, e, Z, h => by
    unfold chkE at h
    split at h
    · rename_i x y q
      obtain ⟨q1, p, rfl⟩ := vCall_eq q
      obtain ⟨h1, h2⟩ := and3 h
      obtain ⟨hx, hg, hm⟩ := Z.bi_ok h1
      subst hx
      split at h2
      · rename_i z w q'
        obtain ⟨q1', p', rfl⟩ := vCall_eq q'
        obtain ⟨h3, h4⟩ := and3 h2
        obtain ⟨h5, h6⟩ := and3 h3
        obtain ⟨hx', hg', hm'⟩ := Z.bi_ok h5
        subst hx'
        exact es_of Z.C (de_lnS Z.C hg hm hg' hm' ⟨chkE_ok a Z h4, notStar_of h6⟩) fun _ => rfl
      · cases h2
    · cases h
  | .srS _, W, X, c, e, Z, h => by cases h
  | .srC _ _ _, W, X, c, e, Z, h => by cases h
  | .dct xs es, W, X, c, e, Z, h => by
    unfold chkE at h
    split at h
    · rename_i ks vs q
      obtain ⟨p, rfl⟩ := vDct_eq q
      obtain ⟨h1, h2⟩ := and3 h
      obtain ⟨h3, h4⟩ := and3 h1
      obtain ⟨h5, h6⟩ := and3 h3
      obtain ⟨h9, h10⟩ := and3 h5
      exact es_of Z.C (de_dct (kys_of h9) (chkEs_ok es Z h2) (of_decide_eq_true h10) (of_decide_eq_true h6) (of_decide_eq_true h4)) fun _ => rfl
    · cases h
  | .dctT, W, X, c, e, Z, h => by
    unfold chkE at h
    split at h
    · rename_i q
      obtain ⟨p, rfl⟩ := vDct_eq q
      exact es_of Z.C de_dctT fun _ => rfl
    · cases h
  | .popL i, W, X, c, e, Z, h => by
    unfold chkE at h
    split at h
    · rename_i o m q
      obtain ⟨pa, pc, rfl, hl⟩ := vMth0_eq q
      obtain ⟨h1, h2⟩ := and3 h
      obtain rfl := of_decide_eq_true h1
      obtain ⟨x, px, rfl, hN, hv, h7, h8⟩ := Z.rdv h2
      exact es_of Z.C (de_pop (pe_var hN hv h7 h8) hl) fun _ => rfl
    · cases h
  | .gd x kvs, W, X, c, e, Z, h => by
    unfold chkE at h
    split at h
    · rename_i y ey
      obtain ⟨_, rfl⟩ := vName_eq ey
      obtain ⟨h1, h2⟩ := and3 h
      obtain ⟨h3, h4⟩ := and3 h1
      obtain ⟨h5, h6⟩ := and3 h3
      cases of_decide_eq_true h5
      obtain ⟨d, hm, hk⟩ := Z.mf.gd _ _ (of_decide_eq_true h4)
      exact es_of Z.C (de_gd Z.C (Z.gl h6) hm hk (plB_ok h2).1) fun _ => rfl
    · cases h
  | .gc x d, W, X, c, e, Z, h => by
    unfold chkE at h
    split at h
    · rename_i y ey
      obtain ⟨_, rfl⟩ := vName_eq ey
      obtain ⟨h1, h2⟩ := and3 h
      obtain ⟨h3, h4⟩ := and3 h1
      obtain ⟨h5, h6⟩ := and3 h3
      cases of_decide_eq_true h5
      obtain ⟨v, u, hm, hr, hv⟩ := Z.mf.gc _ _ (of_decide_eq_true h4)
      exact es_of Z.C (de_gc Z.C (Z.gl h6) hm hr hv (plB_ok h2).1) fun _ => rfl
    · cases h
  | .spl a b, W, X, c, e, Z, h => by
    unfold chkE at h
    split at h
    · rename_i x m y ey
      obtain ⟨pa, pc, rfl, hl⟩ := vMth_eq ey
      obtain ⟨h1, hb⟩ := and3 h
      obtain ⟨h2, ha⟩ := and3 h1
      obtain ⟨h3, hs⟩ := and3 h2
      obtain ⟨h4, hv⟩ := and3 h3
      cases of_decide_eq_true h4
      exact es_of Z.C (de_spl (chkE_ok a Z ha).v (chkE_ok b Z hb).v (notStar_of hs [] _) (base_of hv) hl) fun _ => rfl
    · cases h
  | .m0 m a, W, X, c, e, Z, h => by
    unfold chkE at h
    split at h
    · rename_i x n q
      obtain ⟨pa, pc, rfl, hl⟩ := vMth0_eq q
      obtain ⟨h1, ha⟩ := and3 h
      obtain ⟨h2, hv⟩ := and3 h1
      exact es_of Z.C (de_m0 (of_decide_eq_true h2) (chkE_ok a Z ha).v (base_of hv) hl) fun _ => rfl
    · cases h
  | .ptn a b, W, X, c, e, Z, h => by
    unfold chkE at h
    split at h
    · rename_i x m y ey
      obtain ⟨pa, pc, rfl, hl⟩ := vMth_eq ey
      obtain ⟨h1, hb⟩ := and3 h
      obtain ⟨h2, ha⟩ := and3 h1
      obtain ⟨h3, hs⟩ := and3 h2
      obtain ⟨h4, hv⟩ := and3 h3
      cases of_decide_eq_true h4
      exact es_of Z.C (de_ptn (chkE_ok a Z ha).v (chkE_ok b Z hb).v (notStar_of hs [] _) (base_of hv) hl) fun _ => rfl
    · cases h
  | .ix a i, W, X, c, e, Z, h => by
    unfold chkE at h
    split at h
    · rename_i x y q
      obtain ⟨p, rfl⟩ := vSub_eq q
      obtain ⟨h1, h2⟩ := and3 h
      obtain ⟨h3, h4⟩ := and3 h1
      exact es_of Z.C (de_ix Z.C (chkE_ok a Z h4).o (chkE_ok i Z h2).o (plainIx_of h3)) fun _ => rfl
    · cases h
  | .sl a l u, W, X, c, e, Z, h => by
    unfold chkE at h
    split at h
    · rename_i x y q
      obtain ⟨p, rfl⟩ := vSub_eq q
      obtain ⟨h1, h2⟩ := and3 h
      split at h2
      · rename_i lo hi q2
        obtain ⟨p2, rfl⟩ := vSl_eq q2
        obtain ⟨h3, h4⟩ := and3 h2
        exact es_of Z.C (de_sl Z.C (chkE_ok a Z h1).o (chkO_ok l Z h3) (chkO_ok u Z h4)) fun _ => rfl
      · cases h2
    · cases h
  | .sls a l u st, W, X, c, e, Z, h => by
    unfold chkE at h
    split at h
    · rename_i x y q
      obtain ⟨p, rfl⟩ := vSub_eq q
      obtain ⟨h1, h2⟩ := and3 h
      split at h2
      · rename_i lo hi t q2
        obtain ⟨p2, rfl⟩ := vSls_eq q2
        obtain ⟨h3, h4⟩ := and3 h2
        obtain ⟨h5, h6⟩ := and3 h3
        exact es_of Z.C (de_sls Z.C (chkE_ok a Z h1).o (chkO_ok l Z h5) (chkO_ok u Z h6) (chkE_ok st Z h4).v) fun _ => rfl
      · cases h2
    · cases h
  | .bi f es, W, X, c, e, Z, h => by
    unfold chkE at h
    split at h
    · rename_i x xs q
      obtain ⟨q1, p, rfl⟩ := vCall_eq q
      obtain ⟨h1, h2⟩ := and3 h
      obtain ⟨h3, h4⟩ := and3 h1
      obtain ⟨hx, hg, hm⟩ := Z.bi_ok h3
      exact es_of Z.C (de_bi Z.C Z.mf.nd hx hg hm (chkEs_ok es Z h2) (some1_ne h4)) fun _ => rfl
    · cases h
  | .isi t a, W, X, c, e, Z, h => by
    unfold chkE at h
    split at h
    · rename_i x y z q
      obtain ⟨q1, p, rfl⟩ := vCall_eq q
      obtain ⟨h1, h2⟩ := and3 h
      obtain ⟨h3, h4⟩ := and3 h1
      obtain ⟨h5, h6⟩ := and3 h3
      obtain ⟨hx, hg, hm⟩ := Z.bi_ok h5
      subst hx
      split at h2
      · rename_i n qn
        obtain ⟨pn, rfl⟩ := vName_eq qn
        obtain ⟨hx', hg', hm'⟩ := Z.bi_ok h2
        exact es_of Z.C (de_isi Z.C hx' hg hm hg' hm' ⟨chkE_ok a Z h4, notStar_of h6⟩) fun _ => rfl
      · cases h2
    · cases h
  | .hole i, W, X, c, e, Z, h => by
    unfold chkE at h
    split at h
    · rename_i x q
      obtain ⟨q1, p, rfl⟩ := vCall_eq q
      obtain ⟨h, hp⟩ := and3 h
      obtain ⟨h, hv⟩ := and3 h
      obtain ⟨h, hN⟩ := and3 h
      exact es_of Z.C (Z.ho h W X.pn X.xe Z.tk i x q1 p (by rw [Z.N]; exact of_decide_eq_true hN) (Z.vis hv) (plB_ok hp).1 (plB_ok hp).2) fun _ => rfl
    · cases h
  | .tell t a, W, X, c, e, Z, h => by
    unfold chkE at h
    split at h
    · rename_i x b sc q
      obtain ⟨p1, p2, p3, rfl⟩ := vTell_eq q
      obtain ⟨h, ha⟩ := and3 h
      obtain ⟨h, hs⟩ := and3 h
      obtain ⟨h, hp⟩ := and3 h
      obtain ⟨h, hg⟩ := and3 h
      obtain ⟨h, ht⟩ := and3 h
      obtain ⟨h, hl⟩ := and3 h
      cases of_decide_eq_true h
      have L : LamX.LamS X.env.scope sc := by rw [Z.sc]; exact LamX.lamS_by hs
      exact es_of Z.C (Z.tl hl t ht W b sc p1 p2 p3 (sm cf a) (Z.gl hg) (plB_ok hp).1 L fun A outer s0 H E f c' gds hr => (chkE_ok a (Z.inL hl L gds hr) ha).v) fun _ => rfl
    · cases h
  | .isx tp xs a, W, X, c, e, Z, h => by
    unfold chkE at h
    split at h
    · rename_i x y z q
      obtain ⟨q1, p, rfl⟩ := vCall_eq q
      obtain ⟨h1, h2⟩ := and3 h
      obtain ⟨h3, h4⟩ := and3 h1
      obtain ⟨h5, h6⟩ := and3 h3
      obtain ⟨hx, hg, hm⟩ := Z.bi_ok h5
      subst hx
      split at h2
      · split at h2
        · rename_i es qn
          obtain ⟨_, pn, rfl⟩ := vTup_eq qn
          obtain ⟨h7, h8⟩ := and3 h2
          obtain ⟨Ds, hn⟩ := Z.cls_ok h8
          exact es_of Z.C (de_isxT Z.C hn (of_decide_eq_true h7) hg hm ⟨chkE_ok a Z h4, notStar_of h6⟩) fun _ => rfl
        · cases h2
      · split at h2
        · rename_i n m qn
          obtain ⟨pn, rfl⟩ := vName_eq qn
          obtain ⟨h7, h8⟩ := and3 h2
          obtain ⟨h7, h9⟩ := and3 h7
          obtain ⟨h7, h10⟩ := and3 h7
          cases of_decide_eq_true h7
          obtain ⟨hy, hi⟩ := Z.mf.xi _ h9
          exact es_of Z.C (de_isx Z.C hy hi hg hm (Z.gl h10) (plB_ok h8).1 ⟨chkE_ok a Z h4, notStar_of h6⟩) fun _ => rfl
        · cases h2
    · cases h
  | .cnt a b, W, X, c, e, Z, h => by
    unfold chkE at h
    split at h
    · rename_i x m y q
      obtain ⟨pa, pc, rfl, hl⟩ := vMth_eq q
      obtain ⟨h1, hb⟩ := and3 h
      obtain ⟨h2, ha⟩ := and3 h1
      obtain ⟨h3, hs⟩ := and3 h2
      obtain ⟨h4, hv⟩ := and3 h3
      cases of_decide_eq_true h4
      exact es_of Z.C (de_cnt Z.C (chkE_ok a Z ha).o ⟨chkE_ok b Z hb, notStar_of hs⟩ (base_of hv) hl) fun _ => rfl
    · cases h
  | .idx a b, W, X, c, e, Z, h => by
    unfold chkE at h
    split at h
    · rename_i x m y q
      obtain ⟨pa, pc, rfl, hl⟩ := vMth_eq q
      obtain ⟨h1, hb⟩ := and3 h
      obtain ⟨h2, ha⟩ := and3 h1
      obtain ⟨h3, hs⟩ := and3 h2
      obtain ⟨h4, hv⟩ := and3 h3
      cases of_decide_eq_true h4
      exact es_of Z.C (de_idx Z.C (by have := Z.rm.un; omega) (chkE_ok a Z ha).o ⟨chkE_ok b Z hb, notStar_of hs⟩ (base_of hv) hl) fun _ => rfl
    · cases h
  | .att f a, W, X, c, e, Z, h => by
    unfold chkE at h
    split at h
    · rename_i x n q
      obtain ⟨p, rfl⟩ := vAtt_eq q
      obtain ⟨h1, ha⟩ := and3 h
      obtain ⟨h2, hv⟩ := and3 h1
      cases of_decide_eq_true h2
      exact es_of Z.C (de_att Z.C (chkE_ok a Z ha).o (base_of hv)) fun _ => rfl
    · cases h
  | .rngL es, W, X, c, e, Z, h => by
    unfold chkE at h
    split at h
    · rename_i x y q
      obtain ⟨q1, p, rfl⟩ := vCall_eq q
      obtain ⟨h1, h2⟩ := and3 h
      obtain ⟨hx, hg, hm⟩ := Z.bi_ok h1
      subst hx
      split at h2
      · rename_i z xs q'
        obtain ⟨q1', p', rfl⟩ := vCall_eq q'
        obtain ⟨h3, h4⟩ := and3 h2
        obtain ⟨h5, h6⟩ := and3 h3
        obtain ⟨hx', hg', hm'⟩ := Z.bi_ok h5
        subst hx'
        exact es_of Z.C (de_rngL Z.C hg hm hg' hm' (chkEs_ok es Z h4) (one2_len h6)) fun _ => rfl
      · cases h2
    · cases h
  | .rngT es, W, X, c, e, Z, h => by
    unfold chkE at h
    split at h
    · rename_i x y q
      obtain ⟨q1, p, rfl⟩ := vCall_eq q
      obtain ⟨h1, h2⟩ := and3 h
      obtain ⟨hx, hg, hm⟩ := Z.bi_ok h1
      subst hx
      split at h2
      · rename_i z xs q'
        obtain ⟨q1', p', rfl⟩ := vCall_eq q'
        obtain ⟨h3, h4⟩ := and3 h2
        obtain ⟨h5, h6⟩ := and3 h3
        obtain ⟨hx', hg', hm'⟩ := Z.bi_ok h5
        subst hx'
        exact es_of Z.C (de_rngT Z.C hg hm hg' hm' (chkEs_ok es Z h4) (one2_len h6)) fun _ => rfl
      · cases h2
    · cases h
  | .call f as, W, X, c, e, Z, h => by
    unfold chkE at h
    split at h
    · rename_i x xs q
      obtain ⟨q1, p, rfl⟩ := vCall_eq q
      obtain ⟨h1, h2⟩ := and3 h
      obtain ⟨h3, h4⟩ := and3 h1
      obtain ⟨h5, h6⟩ := and3 h3
      obtain ⟨h7, h8⟩ := and3 h5
      obtain ⟨h9, h10⟩ := and3 h7
      cases of_decide_eq_true h9
      obtain ⟨h8, hpo⟩ := and3 h8
      obtain ⟨k, fa, fd, ps, F, hr, hm, hk, hb, _⟩ := Z.df1 _ h8
      exact es_of Z.C (de_call Z.C Z.tk F hr (Z.gl h10) hm hk (hb hpo) (plB_ok h6).1 (chkA_ok as Z h2) (some1_ne h4)) fun _ => rfl
    · cases h
  | .callK f n as ks es pm, W, X, c, e, Z, h => by
    unfold chkE at h
    split at h
    · rename_i x xs kws q
      obtain ⟨q1, p, rfl⟩ := vCallK_eq q
      obtain ⟨h, hes⟩ := and3 h
      obtain ⟨h, has⟩ := and3 h
      obtain ⟨h, hks⟩ := and3 h
      obtain ⟨h, hpl⟩ := and3 h
      obtain ⟨h, hkw⟩ := and3 h
      obtain ⟨h, hdn⟩ := and3 h
      obtain ⟨hx, hgl⟩ := and3 h
      cases of_decide_eq_true hx
      obtain ⟨k, fa, fd, ps, F, hr, hm, hk, _, hb⟩ := Z.df1 _ hdn
      exact es_of Z.C (de_callK Z.C Z.tk F hr (Z.gl hgl) hm hk (hb _ (of_decide_eq_true hkw)) (plB_ok hpl).1 (chkA_ok as Z has) (chkEs_ok es Z hes) (of_decide_eq_true hks)) fun _ => rfl
    · cases h
  | .call0 f, W, X, c, e, Z, h => by
    unfold chkE at h
    split at h
    · rename_i x q
      obtain ⟨q1, p, rfl⟩ := vCall_eq q
      obtain ⟨h3, h4⟩ := and3 h
      obtain ⟨h5, h6⟩ := and3 h3
      obtain ⟨h7, h8⟩ := and3 h5
      cases of_decide_eq_true h7
      obtain ⟨h6, hpo⟩ := and3 h6
      obtain ⟨k, fa, fd, ps, F, hr, hm, hk, hb, _⟩ := Z.df1 _ h6
      exact es_of Z.C (de_call0 Z.C Z.tk F hr (Z.gl h8) hm hk (hb hpo) (plB_ok h4).1) fun _ => rfl
    · cases h
  | .callF f a, W, X, c, e, Z, h => by
    unfold chkE at h
    split at h
    · rename_i x y q
      obtain ⟨q1, p, rfl⟩ := vCall_eq q
      obtain ⟨h1, h2⟩ := and3 h
      obtain ⟨h3, h4⟩ := and3 h1
      obtain ⟨h5, h6⟩ := and3 h3
      obtain ⟨h7, h8⟩ := and3 h5
      obtain ⟨h9, h10⟩ := and3 h7
      cases of_decide_eq_true h9
      obtain ⟨h8, hpo⟩ := and3 h8
      obtain ⟨k, fa, fd, ps, F, hr, hm, hk, hb, _⟩ := Z.df1 _ h8
      exact es_of Z.C (de_callF Z.C Z.tk F hr (Z.gl h10) hm hk (hb hpo) (plB_ok h6).1 ⟨chkE_ok a Z h2, notStar_of h4⟩) fun _ => rfl
    · cases h
  | .callV i fs as, W, X, c, e, Z, h => by
    unfold chkE at h
    split at h
    · rename_i x xs q
      obtain ⟨q1, p, rfl⟩ := vCall_eq q
      obtain ⟨h1, h2⟩ := and3 h
      obtain ⟨h3, h4⟩ := and3 h1
      obtain ⟨h5, h6⟩ := and3 h3
      obtain ⟨h7, h8⟩ := and3 h5
      obtain ⟨h9, h10⟩ := and3 h7
      exact es_of Z.C (de_callV Z.C Z.tk (fun y hy => by
          obtain ⟨hd, hpo⟩ := and3 (List.all_eq_true.mp h6 y hy)
          obtain ⟨k, fa, fd, ps, F, hr, hm, hk, hb, _⟩ := Z.df1 y hd
          exact ⟨k, fa, fd, ps, F, hr, hm, hk, hb hpo⟩) (by rw [Z.N]; exact of_decide_eq_true h9) (Z.vis h10) (plB_ok h8).1 (plB_ok h8).2 (chkA_ok as Z h2) (some1_ne h4)) fun _ => rfl
    · cases h
  | .dget a k d, W, X, c, e, Z, h => by
    unfold chkE at h
    split at h
    · rename_i x m y z ey
      obtain ⟨pa, pc, rfl, hl⟩ := vMth2_eq ey
      obtain ⟨h1, hd⟩ := and3 h
      obtain ⟨h2, hk⟩ := and3 h1
      obtain ⟨h3, ha⟩ := and3 h2
      obtain ⟨h4, hs2⟩ := and3 h3
      obtain ⟨h5, hs1⟩ := and3 h4
      obtain ⟨h6, hv⟩ := and3 h5
      cases of_decide_eq_true h6
      exact es_of Z.C (de_dget Z.C (chkE_ok a Z ha).o ⟨chkE_ok k Z hk, notStar_of hs1⟩ ⟨chkE_ok d Z hd, notStar_of hs2⟩ (base_of hv) hl) fun _ => rfl
    · cases h
  | .lc2 tg it tg1 it1 el, W, X, c, e, Z, h => by
    unfold chkE at h
    split at h
    · rename_i x t i t1 i1 sc q
      obtain ⟨p, rfl⟩ := vLc2_eq q
      obtain ⟨h1, he⟩ := and3 h
      obtain ⟨h2, hi1⟩ := and3 h1
      obtain ⟨h3, ht1⟩ := and3 h2
      obtain ⟨h4, ht⟩ := and3 h3
      obtain ⟨h5, hb⟩ := and3 h4
      obtain ⟨h6, hs1⟩ := and3 h5
      obtain ⟨hi, hs⟩ := and3 h6
      have hb' : BlkOk X.N X.env.scope sc (ownOf c.N (tg.ix ++ tg1.ix)) := by rw [Z.N, Z.sc]; exact blkOk_by hb
      exact es_of Z.C (de_lc2 Z.C (chkI_ok it Z hi) hb' (CtxK.own_ok Z)
        (fun s H C cl fp => (Z.blk s H sc cl C fp).tg_ok ht)
        (fun s H C cl fp => chkI_ok it1 (Z.blk s H sc cl C fp) hi1)
        (fun s H C cl fp => (Z.blk s H sc cl C fp).tg_ok ht1)
        (fun s H C cl fp => (chkE_ok el (Z.blk s H sc cl C fp) he).v)
        (fun v => by cases i <;> first | rfl | cases hs)
        (fun env v => by cases i1 <;> first | rfl | cases hs1)) fun _ => rfl
    · cases h
  | .lc tg it ifs el, W, X, c, e, Z, h => by
    unfold chkE at h
    split at h
    · rename_i x t i fs sc q
      obtain ⟨p, rfl⟩ := vLc_eq q
      obtain ⟨h1, he⟩ := and3 h
      obtain ⟨h2, hf⟩ := and3 h1
      obtain ⟨h3, hfw⟩ := and3 h2
      obtain ⟨h4, ht⟩ := and3 h3
      obtain ⟨h5, hb⟩ := and3 h4
      obtain ⟨hi, hs⟩ := and3 h5
      have hb' : BlkOk X.N X.env.scope sc (ownOf c.N tg.ix) := by rw [Z.N, Z.sc]; exact blkOk_by hb
      exact es_of Z.C (de_lc Z.C (chkI_ok it Z hi) hb' (CtxK.own_ok Z)
        (fun s H C cl fp => (Z.blk s H sc cl C fp).tg_ok ht)
        (fun s H C cl fp => pts_few (Z.blk s H sc cl C fp) (chkEs_ok ifs (Z.blk s H sc cl C fp) hf) hfw)
        (fun s H C cl fp => (chkE_ok el (Z.blk s H sc cl C fp) he).v)
        (fun v => by cases i <;> first | rfl | cases hs)) fun _ => rfl
    · cases h
theorem chkO_ok : ∀ (ce : CO) {W : WX} {X : Cx} {c : KC} {e : Option Expr}, CtxK g cf W X c → chkO ce c e = true → PO X e (tOO g W (evOp (smO cf ce)))
  | .none, W, X, c, none, Z, h => do_none
  | .some a, W, X, c, some e, Z, h => do_some (chkE_ok a Z h).v
  | .none, W, X, c, some e, Z, h => by cases h
  | .some a, W, X, c, none, Z, h => by cases h
theorem chkEs_ok : ∀ (ce : CEs) {W : WX} {X : Cx} {c : KC} {es : List Expr}, CtxK g cf W X c → chkEs ce c es = true → Paired (AS g W X) es (sms cf ce)
  | .nil, W, X, c, [], Z, h => .nil
  | .nil, W, X, c, _ :: _, Z, h => by cases h
  | .cons a as, W, X, c, [], Z, h => by cases h
  | .cons a as, W, X, c, e :: es, Z, h => by
    obtain ⟨h1, h2⟩ := and3 (show (chkE a c e && notStarB e && chkEs as c es) = true from h)
    obtain ⟨h3, h4⟩ := and3 h1
    exact .cons ⟨chkE_ok a Z h3, notStar_of h4⟩ (chkEs_ok as Z h2)
theorem chkA_ok : ∀ (ce : CAs) {W : WX} {X : Cx} {c : KC} {es : List Expr}, CtxK g cf W X c → chkA ce c es = true → Paired (ArR g W X) es (smA cf ce)
  | .nil, W, X, c, [], Z, h => .nil
  | .nil, W, X, c, _ :: _, Z, h => by cases h
  | .ex a as, W, X, c, [], Z, h => by cases h
  | .io j as, W, X, c, [], Z, h => by cases h
  | .ex a as, W, X, c, e :: es, Z, h => by
    obtain ⟨h1, h2⟩ := and3 (show (chkE a c e && notStarB e && chkA as c es) = true from h)
    obtain ⟨h3, h4⟩ := and3 h1
    exact .cons (.ex ⟨chkE_ok a Z h3, notStar_of h4⟩) (chkA_ok as Z h2)
  | .io j as, W, X, c, e :: es, Z, h => by
    obtain ⟨h1, h2⟩ := and3 (show (c.rd j e && chkA as c es) = true from h)
    obtain ⟨x, p, rfl, hN, hv, h3, h4⟩ := Z.rdv h1
    exact .cons (.io (pe_var hN hv h3 h4)) (chkA_ok as Z h2)
theorem chkI_ok : ∀ (ce : CI) {W : WX} {X : Cx} {c : KC} {e t : Expr}, CtxK g cf W X c → chkI ce c e t = true → PI X t e (tI g W (smI cf ce))
  | .ex a, W, X, c, e, t, Z, h => di_ex Z.C (chkE_ok a Z h).v
  | .rng es, W, X, c, e, t, Z, h => by
    unfold chkI at h
    split at h
    · rename_i x xs q
      obtain ⟨q1, p, rfl⟩ := vCall_eq q
      obtain ⟨h1, h2⟩ := and3 h
      obtain ⟨h3, h4⟩ := and3 h1
      obtain ⟨hx, hg, hm⟩ := Z.bi_ok h3
      subst hx
      exact di_rng hg hm (chkEs_ok es Z h2) (one2_len h4)
    · cases h
  | .rng3 es, W, X, c, e, t, Z, h => by
    unfold chkI at h
    split at h
    · rename_i x xs q
      obtain ⟨q1, p, rfl⟩ := vCall_eq q
      obtain ⟨h1, h2⟩ := and3 h
      obtain ⟨h3, h4⟩ := and3 h1
      obtain ⟨hx, hg, hm⟩ := Z.bi_ok h3
      subst hx
      exact di_rng3 hg hm (chkEs_ok es Z h2) (of_decide_eq_true h4)
    · cases h
  | .sgn a, W, X, c, e, t, Z, h => di_sgn (chkE_ok a Z h).v
  | .rrng es, W, X, c, e, t, Z, h => by
    unfold chkI at h
    split at h
    · rename_i y z q
      obtain ⟨q1, p, rfl⟩ := vCall_eq q
      split at h
      · rename_i x xs q2
        obtain ⟨q3, p2, rfl⟩ := vCall_eq q2
        obtain ⟨h1, h2⟩ := and3 h
        obtain ⟨h3, h4⟩ := and3 h1
        obtain ⟨h5, h6⟩ := and3 h3
        obtain ⟨hy, hgy, hmy⟩ := Z.bi_ok h5
        obtain ⟨hx, hgx, hmx⟩ := Z.bi_ok h6
        subst hx
        subst hy
        exact di_rrng hgy hmy hgx hmx (chkEs_ok es Z h2) (one2_len h4)
      · cases h
    · cases h
  | .enu a, W, X, c, e, t, Z, h => by
    unfold chkI at h
    split at h
    · rename_i x y q
      obtain ⟨q1, p, rfl⟩ := vCall_eq q
      obtain ⟨h1, h2⟩ := and3 h
      obtain ⟨h3, h4⟩ := and3 h1
      obtain ⟨h5, h6⟩ := and3 h3
      obtain ⟨hx, hg, hm⟩ := Z.bi_ok h5
      subst hx
      split at h2
      · rename_i ts qt
        obtain ⟨kk, pt, rfl⟩ := vTup_eq qt
        exact di_enu Z.C hg hm ⟨chkE_ok a Z h4, notStar_of h6⟩
      · cases h2
    · cases h
  | .zip a b, W, X, c, e, t, Z, h => by
    unfold chkI at h
    split at h
    · rename_i x y z q
      obtain ⟨q1, p, rfl⟩ := vCall_eq q
      obtain ⟨h1, h2⟩ := and3 h
      obtain ⟨h3, hb⟩ := and3 h1
      obtain ⟨h4, ha⟩ := and3 h3
      obtain ⟨h5, hz⟩ := and3 h4
      obtain ⟨h6, hy⟩ := and3 h5
      obtain ⟨hx, hg, hm⟩ := Z.bi_ok h6
      subst hx
      split at h2
      · rename_i ts qt
        obtain ⟨kk, pt, rfl⟩ := vTup_eq qt
        exact di_zip Z.C hg hm ⟨chkE_ok a Z ha, notStar_of hy⟩ ⟨chkE_ok b Z hb, notStar_of hz⟩
      · cases h2
    · cases h
end
end
end Wr
namespace Wr
open PySem PySem.Spec L2
open PyProof.Rows hiding St
section
variable {g : Gm} {E : En} {W : WX} {X : Cx} {pos : Pos} {e c : Expr}
theorem ds_app (C : CtxOk g X) {i : Nat} {x : Str} {px pa pc : Pos} {s : Sm} (hx : PE X (.Name x px) (tVar i)) (he : AS g W X e s) (hl : (pa.endLine == pc.line) = true) :
    PS X (.Expr (.Call (.Attribute (.Name x px) "append" pa) [e] [] pc) pos) (tS g W E (appV i s)) := by
  refine psImp (ps_expr (pe_bm PySem.F.plainAttrs_list PySem.F.slot_list_append PySem.F.type_list_append mt_append hx (pa_cons he.es.v pa_nil (he.ns [] _)) rfl (few_one e pc _ he.ns) hl (he.ns [] _) rfl)) fun D σ H ⟨O, ρ, S, q⟩ => ?_
  unfold appV at q
  split at q
  case isFalse => exact q.elim
  rename_i hown
  obtain ⟨v, ev, ty⟩ : ∃ v, σ[i]? = some (some v) ∧ tyV X.K "list" v H := by
    have key : ∀ a (ds : List Wr.D), Ob g H O a (.lst ds) → tyV X.K "list" (.ref a) H := fun a ds ob => by
      cases ob with
      | lst h _ => exact .inl ⟨rfl, _, .inl (.inl h)⟩
    unfold ownL at hown
    split at hown
    · rename_i ds es
      obtain ⟨v, ev, r⟩ := S.st.get es
      cases r with | ow _ ob => exact ⟨_, ev, key _ _ ob⟩
    · rename_i ds es
      obtain ⟨v, ev, r⟩ := S.st.get es
      cases r with | io _ ob => exact ⟨_, ev, key _ _ ob⟩
    · cases hown
  refine ⟨v, ev, ty, O, ρ, S.st, (so_rw S q).imp fun r ρ1 q1 w H1 O1 s1 rv => ?_⟩
  obtain ⟨O2, s2, r2⟩ := rv.share S.st s1
  split at q1
  · rename_i ρ2 e2
    obtain ⟨a, xs, ds, ys, ea, ha, rs, ef, stp⟩ := chg_stp s2.st e2
    rw [ev] at ea
    cases ea
    split at ef
    · rename_i hlt
      cases ef
      refine ⟨a, xs, w, rfl, rfl, ha, by rw [rs.len, ← sizeL_eq]; exact hlt, ?_⟩
      exact q1 σ _ O2 ((S.step s2).step (stp _ (rs.append (.cons r2 .nil))))
    · cases ef
  · exact q1.elim
theorem share_lst {H H1 : Hp} {O O1 : AP1} {σ : St} {ρ ρ1 : Rho} {v : V} {ys : List D} (S : StR g H O σ ρ) (p : Stp g σ ρ H O ρ1 H1 O1) (h : RsR g H σ ρ1 H1 O1 v (.fr (.lst ys))) :
    ∃ O2 b zs, v = .ref b ∧ H1 b = some (.lst zs) ∧ Stp g σ ρ H O ρ1 H1 O2 ∧ RDs g H1 O2 zs ys := by
  obtain ⟨a, rfl, na, oa, nw, ob⟩ := h
  have sub : ∀ b, (O1 b ∧ b ≠ a) → O1 b := fun _ z => z.1
  cases ob with
  | lst e hs =>
    refine ⟨fun b => O1 b ∧ b ≠ a, a, _, rfl, e, ⟨⟨p.fr.kp, p.fr.tb, p.fr.there, fun b z n => ⟨p.fr.o1 b z n, fun e => ?_⟩, fun b z => p.fr.o2 b z.1⟩, p.st.anti sub fun b z => ⟨p.st.wn b z, fun e => nw (e ▸ z)⟩, p.sub, p.io⟩, hs.anti sub⟩
    subst e
    exact S.obj b z na
/-- extend by a list that is only read -/
def rExtK (K : PySem.W.Frag) : V → List V → Hp → VK → Prop := fun x ys H Q => ∃ l b xs zs, x = .ref l ∧ ys = [.ref b] ∧ H l = some (.lst xs) ∧ LsK K H b zs ∧ xs.length + zs.length ≤ sizeLine ∧ Q .non (upd H l (.lst (xs ++ zs)))
theorem mt_extK : MtM X "list.extend" (rExtK X.K) := by
  intro pins s σ H x ys v us Q I rx ru ⟨l, b, xs, zs, ex, ey, hl, hb, hz, q⟩
  subst ex
  subst ey
  cases rx
  obtain ⟨w, rfl, rw'⟩ := ru.one
  cases rw'
  obtain ⟨_, a1, n1, r1, len1, g1⟩ := I.lstM hl
  obtain ⟨_, a2, n2, r2, g2⟩ := rdL I hb
  have len2 := r2.length
  have both : a1.toArray.size + a2.toArray.size ≤ sizeLine := by
    rw [List.size_toArray, List.size_toArray]
    omega
  refine call_meets F.slot_list_extend ⟨_, g1, rfl⟩ F.entry_list_extend (F.args_list_extend_2 _ _) (AutoSeq1.list_extend_list_list_0 l a1.toArray n1 b a2.toArray n2 (fun z => ?_) (by rw [List.size_toArray]; omega) (by omega)) ⟨g1, g2, ?_⟩
  · rw [notLongL both, Bool.and_false] at z
    cases z
  · exact ⟨.non, _, I.lset (its' := a1 ++ a2) hl g1 (by simp) (r1.append r2) (by rw [List.length_append]; omega), rfl, q⟩
theorem ds_ext (C : CtxOk g X) {i : Nat} {x : Str} {px pa pc : Pos} {s : Sm} (hx : PE X (.Name x px) (tVar i)) (he : AS g W X e s) (hl : (pa.endLine == pc.line) = true) :
    PS X (.Expr (.Call (.Attribute (.Name x px) "extend" pa) [e] [] pc) pos) (tS g W E (extV i s)) := by
  refine psImp (ps_expr (pe_bm PySem.F.plainAttrs_list PySem.F.slot_list_extend PySem.F.type_list_extend mt_extK hx (pa_cons he.es.v pa_nil (he.ns [] _)) rfl (few_one e pc _ he.ns) hl (he.ns [] _) rfl)) fun D σ H ⟨O, ρ, S, q⟩ => ?_
  unfold extV at q
  split at q
  case isFalse => exact q.elim
  rename_i hown
  obtain ⟨v, ev, ty⟩ : ∃ v, σ[i]? = some (some v) ∧ tyV X.K "list" v H := by
    have key : ∀ a (ds : List Wr.D), Ob g H O a (.lst ds) → tyV X.K "list" (.ref a) H := fun a ds ob => by
      cases ob with
      | lst h _ => exact .inl ⟨rfl, _, .inl (.inl h)⟩
    unfold ownL at hown
    split at hown
    · rename_i ds es
      obtain ⟨v, ev, r⟩ := S.st.get es
      cases r with | ow _ ob => exact ⟨_, ev, key _ _ ob⟩
    · rename_i ds es
      obtain ⟨v, ev, r⟩ := S.st.get es
      cases r with | io _ ob => exact ⟨_, ev, key _ _ ob⟩
    · cases hown
  refine ⟨v, ev, ty, O, ρ, S.st, (so_rw S q).imp fun r ρ1 q1 w H1 O1 s1 rv => ?_⟩
  split at q1
  · rename_i ys0
    obtain ⟨O2, b, zs, eb, hb, s2, rz⟩ := share_lst S.st s1 rv
    split at q1
    · rename_i ρ2 e2
      obtain ⟨a, xs, ds, ys, ea, ha, rs, ef, stp⟩ := chg_stp s2.st e2
      rw [ev] at ea
      cases ea
      split at ef
      · rename_i hlt
        cases ef
        subst eb
        refine ⟨a, b, xs, zs, rfl, rfl, ha, .inl (.inl hb), by rw [rs.len, rz.len, ← sizeL_eq]; exact hlt, ?_⟩
        exact q1 σ _ O2 ((S.step s2).step (stp _ (rs.append rz)))
      · cases ef
    · exact q1.elim
  · rename_i ys0
    have rv : RD g H1 O1 w (.lst ys0) := rv
    cases rv with
    | lst hb rz =>
    rename_i b zs
    split at q1
    · rename_i ρ2 e2
      obtain ⟨a, xs, ds, ys, ea, ha, rs, ef, stp⟩ := chg_stp s1.st e2
      rw [ev] at ea
      cases ea
      split at ef
      · rename_i hlt
        cases ef
        refine ⟨a, b, xs, zs, rfl, rfl, ha, by rw [C.hK]; exact hb.k, by rw [rs.len, rz.len, ← sizeL_eq]; exact hlt, ?_⟩
        exact q1 σ _ O1 ((S.step s1).step (stp _ (rs.append rz)))
      · cases ef
    · exact q1.elim
  · exact q1.elim
end
def blkKind (sc : Scope) : ScopeKind := if sc.kind.isAnnotationScope then .function else sc.kind
/-- a comprehension put under a name of its own line -/
def swB (sc : Scope) (t : Str) (pos : Pos) (v : Expr) : Bool := match v with
  | .ListComp _ _ s _ => blkKind sc == .function && sc.names.lookup t == some .local && pos.line == v.pos.line && !(s.names.any fun (n, k) => n == t && (k == .local || k == .cell))
  | .SetComp _ _ s _ => blkKind sc == .function && sc.names.lookup t == some .local && pos.line == v.pos.line && !(s.names.any fun (n, k) => n == t && (k == .local || k == .cell))
  | .DictComp _ _ _ s _ => blkKind sc == .function && sc.names.lookup t == some .local && pos.line == v.pos.line && !(s.names.any fun (n, k) => n == t && (k == .local || k == .cell))
  | _ => false
theorem swB_ok {sc : Scope} {t : Str} {pos : Pos} {v : Expr} {env : Env} {line : Nat} (h : env.scope = sc) : swapsWith v (some (.Name t pos)) line env = pure (swB sc t pos v) := by
  subst h
  cases v <;> rfl
def notCompB : Expr → Bool
  | .ListComp .. => false
  | .SetComp .. => false
  | .DictComp .. => false
  | _ => true
def notTupB : Expr → Bool
  | .Tuple .. => false
  | _ => true
theorem sw_none {v : Expr} {line : Nat} {env : Env} (h : notCompB v = true) : swapsWith v none line env = pure false := by cases v <;> first | rfl | cases h
theorem sw_tup {v : Expr} {line : Nat} {env : Env} {es : List Expr} {k : Nat} {p : Pos} : swapsWithSole [.Tuple es k p] v line env = pure false := by
  show swapsWith v (some (.Tuple es k p)) line env = pure false
  cases v <;> rfl
theorem sw_sub {v : Expr} {line : Nat} {env : Env} {a i : Expr} {p : Pos} : swapsWithSole [.Subscript a i p] v line env = pure false := by
  show swapsWith v (some (.Subscript a i p)) line env = pure false
  cases v <;> rfl
theorem st_tup {v : Expr} {env : Env} {es : List Expr} {k : Nat} {p : Pos} (h : notTupB v = true) : swappedStores [.Tuple es k p] v env = pure none := by cases v <;> first | rfl | cases h
theorem st_sub {v : Expr} {env : Env} {a i : Expr} {p : Pos} : swappedStores [.Subscript a i p] v env = pure none := by cases v <;> rfl
/-- names of which not all are plain locals: the pair is made, then taken apart -/
theorem sw_cell {x y : Str} {px py pt pt2 : Pos} {kt k2 : Nat} {a b : Expr} {env : Env} (hxy : ¬ (env.kindOf x = some .local ∧ env.kindOf y = some .local)) (na : notStarB a = true) (nb : notStarB b = true) :
    swappedStores [.Tuple [.Name x px, .Name y py] kt pt] (.Tuple [a, b] k2 pt2) env = pure none := by
  have na' : ∀ v p, a ≠ .Starred v p := fun v p e => by subst e; exact absurd na Bool.false_ne_true
  have nb' : ∀ v p, b ≠ .Starred v p := fun v p e => by subst e; exact absurd nb Bool.false_ne_true
  unfold swappedStores
  simp only [List.length_cons, List.length_nil]
  by_cases hx : env.kindOf x = some .local
  · have hy : ¬ env.kindOf y = some .local := fun hy => hxy ⟨hx, hy⟩
    simp [hx, hy, List.filterMap_cons, Expr.pos]
  · by_cases hy : env.kindOf y = some .local
    · by_cases hl : py.line = px.line <;> simp [hx, hy, hl, List.filterMap_cons, Expr.pos]
    · simp [hx, hy, List.filterMap_cons, Expr.pos]
theorem sw_cell3 {x y z : Str} {px py pz pt pt2 : Pos} {kt k2 : Nat} {a b c : Expr} {env : Env} (hxy : ¬ (env.kindOf x = some .local ∧ env.kindOf y = some .local ∧ env.kindOf z = some .local)) (na : notStarB a = true) (nb : notStarB b = true) (nc : notStarB c = true) :
    swappedStores [.Tuple [.Name x px, .Name y py, .Name z pz] kt pt] (.Tuple [a, b, c] k2 pt2) env = pure none := by
  have na' : ∀ v p, a ≠ .Starred v p := fun v p e => by subst e; exact absurd na Bool.false_ne_true
  have nb' : ∀ v p, b ≠ .Starred v p := fun v p e => by subst e; exact absurd nb Bool.false_ne_true
  have nc' : ∀ v p, c ≠ .Starred v p := fun v p e => by subst e; exact absurd nc Bool.false_ne_true
  unfold swappedStores
  simp only [List.length_cons, List.length_nil]
  by_cases hx : env.kindOf x = some .local
  · by_cases hy : env.kindOf y = some .local
    · have hz : ¬ env.kindOf z = some .local := fun hz => hxy ⟨hx, hy, hz⟩
      by_cases hl : py.line = px.line <;> simp [hx, hy, hz, hl, List.filterMap_cons, Expr.pos]
    · by_cases hz : env.kindOf z = some .local
      · by_cases hl : pz.line = px.line <;> simp [hx, hy, hz, hl, List.filterMap_cons, Expr.pos]
      · simp [hx, hy, hz, List.filterMap_cons, Expr.pos]
  · by_cases hy : env.kindOf y = some .local
    · by_cases hz : env.kindOf z = some .local
      · by_cases hl : py.line = px.line <;> by_cases hl2 : pz.line = px.line <;> simp [hx, hy, hz, hl, hl2, List.filterMap_cons, Expr.pos]
      · by_cases hl : py.line = px.line <;> simp [hx, hy, hz, hl, List.filterMap_cons, Expr.pos]
    · by_cases hz : env.kindOf z = some .local
      · by_cases hl2 : pz.line = px.line <;> simp [hx, hy, hz, hl2, List.filterMap_cons, Expr.pos]
      · simp [hx, hy, hz, List.filterMap_cons, Expr.pos]
/-- two names at once -/
theorem sw_par {x y : Str} {px py pt pt2 : Pos} {kt k2 : Nat} {a b : Expr} {env : Env} (hk : (env.blockKind == .function) = true) (hx : env.kindOf x = some .local) (hy : env.kindOf y = some .local) (hl : (py.line == px.line) = true) (hxy : x ≠ y) (na : notStarB a = true) (nb : notStarB b = true)
    (hf : [a, b].all (foldedForSure 8) = false) (hc : [a, b].all (constantsAlone 8) = false) : swappedStores [.Tuple [.Name x px, .Name y py] kt pt] (.Tuple [a, b] k2 pt2) env = pure (some [x, y]) := by
  have st : ([a, b].any fun | .Starred .. => true | _ => false) = false := by
    cases a <;> first | exact absurd na Bool.false_ne_true | (cases b <;> first | exact absurd nb Bool.false_ne_true | rfl)
  have hl' : py.line = px.line := by simpa using hl
  have hk' : env.blockKind = .function := by simpa using hk
  unfold swappedStores
  simp only [List.length_cons, List.length_nil, hk', st, hf, hc]
  have hyx : (y == x) = false := by simpa using hxy.symm
  simp [hx, hy, hl', hxy, List.eraseDups_cons, List.filterMap_cons, Expr.pos]
  refine (if_neg ?_).trans ?_
  · intro h
    rcases h with h | h
    · revert h
      cases a <;> first | exact absurd na Bool.false_ne_true | (intro h; exact absurd h Bool.false_ne_true)
    · revert h
      cases b <;> first | exact absurd nb Bool.false_ne_true | (intro h; exact absurd h Bool.false_ne_true)
  · simp [hyx, List.eraseDups_cons]
theorem ds_par {g : Gm} {E : En} {W : WX} {X : Cx} {pos : Pos} (C : CtxOk g X) {i j : Nat} {x y : Str} {a b : Expr} {px py pt pt2 : Pos} {kt k2 : Nat} {sa sb : Sm} (hi : X.N[i]? = some x) (hj : X.N[j]? = some y) (hij : i ≠ j) (hx : X.env.scope.names.lookup x = some .local) (hy : X.env.scope.names.lookup y = some .local)
    (h : Paired (AS g W X) [a, b] [sa, sb]) (hw : swappedStores [.Tuple [.Name x px, .Name y py] kt pt] (.Tuple [a, b] k2 pt2) X.env = pure (some [x, y])) :
    PS X (.Assign [.Tuple [.Name x px, .Name y py] kt pt] (.Tuple [a, b] k2 pt2) pos) (tS g W E (parV [i, j] [sa, sb])) := by
  refine psImp (ps_par C.calm C.nd hi hj hij hx hy (pas_rs h) hw sw_tup) fun D σ H ⟨O, ρ, S, q⟩ => ?_
  refine ⟨O, ρ, S.st, (so_rw S q).imp fun rs ρ1 q1 vs H1 O1 s1 rvs => ?_⟩
  split at q1
  · rename_i ρ2 e2
    have key : ∃ v w, vs = [v, w] := by
      match rs, e2, rvs with
      | [], e2, _ => cases e2
      | [_], e2, rvs =>
        obtain ⟨ρ3, _, e3⟩ := Option.bind_eq_some_iff.mp (show (setRs i _ ρ1).bind (setRss [j] []) = some ρ2 from e2)
        cases e3
      | _ :: _ :: _ :: _, e2, rvs =>
        obtain ⟨ρ3, _, e3⟩ := Option.bind_eq_some_iff.mp (show (setRs i _ ρ1).bind (setRss [j] (_ :: _ :: _)) = some ρ2 from e2)
        obtain ⟨ρ4, _, e4⟩ := Option.bind_eq_some_iff.mp (show (setRs j _ ρ3).bind (setRss [] (_ :: _)) = some ρ2 from e3)
        cases e4
      | [_, _], e2, rvs =>
        cases rvs with
        | sh _ r2 => cases r2 with
          | sh _ r3 => cases r3; exact ⟨_, _, rfl⟩
          | fr _ _ _ _ _ r3 => cases r3; exact ⟨_, _, rfl⟩
        | fr _ _ _ _ _ r2 => cases r2 with
          | sh _ r3 => cases r3; exact ⟨_, _, rfl⟩
          | fr _ _ _ _ _ r3 => cases r3; exact ⟨_, _, rfl⟩
    obtain ⟨v, w, rfl⟩ := key
    exact ⟨v, w, rfl, q1 _ H1 O1 (set_rss (S.step s1) S.fr.there rvs e2)⟩
  · exact q1.elim
theorem setRss_len : ∀ (is : List Nat) (rs : List Rs) (ρ ρ' : Rho), setRss is rs ρ = some ρ' → rs.length = is.length
  | [], [], _, _, _ => rfl
  | [], _ :: _, _, _, e => by cases e
  | _ :: _, [], _, _, e => by cases e
  | i :: is, r :: rs, ρ, ρ', e => by
    obtain ⟨ρ3, _, e3⟩ := Option.bind_eq_some_iff.mp (show (setRs i r ρ).bind (setRss is rs) = some ρ' from e)
    rw [List.length_cons, List.length_cons, setRss_len is rs ρ3 ρ' e3]
theorem RsL.length {g : Gm} {H0 H : Hp} {O : AP1} {σ : St} {ρ : Rho} : ∀ {vs : List V} {rs : List Rs}, RsL g H0 σ ρ H O vs rs → vs.length = rs.length
  | _, _, .nil => rfl
  | _, _, .sh _ h => by rw [List.length_cons, List.length_cons, h.length]
  | _, _, .fr _ _ _ _ _ h => by rw [List.length_cons, List.length_cons, h.length]
theorem RsL.grow {g : Gm} {H0 H : Hp} {O : AP1} {σ : St} {ρ : Rho} {p : Addr} {o : HO} (n : H p = none) : ∀ {vs : List V} {rs : List Rs}, RsL g H0 σ ρ H O vs rs → RsL g H0 σ ρ (upd H p o) O vs rs
  | _, _, .nil => .nil
  | _, _, .sh r h => .sh (r.fr (up_fr n) fun _ z => z.elim) (RsL.grow n h)
  | _, _, .fr m q w b d h => .fr m q w (b.fr (up_fr n) (fun _ z => z.elim) fun z => z.elim) d (RsL.grow n h)
theorem gNs_set : ∀ {is : List Nat} {vs : List V} {σ : St} {H : Hp} {Q : St → Hp → Prop}, vs.length = is.length → Q (setVs is vs σ) H → gNs is vs σ H Q
  | [], [], _, _, _, _, q => ⟨rfl, q⟩
  | [], _ :: _, _, _, _, h, _ => by cases h
  | _ :: _, [], _, _, _, h, _ => by cases h
  | i :: is, v :: vs, σ, H, Q, h, q => ⟨v, vs, rfl, gNs_set (Nat.succ.inj h) q⟩
/-- several names at once through a tuple: what is fresh in the tuple stays its name's own -/
theorem ds_parT {g : Gm} {E : En} {W : WX} {X : Cx} {pos : Pos} (C : CtxOk g X) {is : List Nat} {ts es : List Expr} {ss : List Sm} {pt pt2 : Pos} {kt k2 : Nat} (hg : PG X (.Tuple ts kt pt) (gT X.K (.tp is)))
    (hn : is.length ≤ sizeLine) (h : Paired (AS g W X) es ss) (hw : swappedStores [.Tuple ts kt pt] (.Tuple es k2 pt2) X.env = pure none) :
    PS X (.Assign [.Tuple ts kt pt] (.Tuple es k2 pt2) pos) (tS g W E (parV is ss)) := by
  refine psImp (ps_asg (pe_tup (pas_rs h)) hg sw_tup hw rfl) fun D σ H ⟨O, ρ, S, q⟩ => ?_
  refine ⟨O, ρ, S.st, (so_rw S q).imp fun rs ρ1 q1 vs H1 O1 s1 rvs => ?_⟩
  split at q1
  · rename_i ρ2 e2
    have n2 : vs.length = is.length := rvs.length.trans (setRss_len _ _ _ _ e2)
    exact ⟨n2 ▸ hn, fun p np => ⟨p, vs, rfl, SqT.of upd_same, n2, gNs_set n2 (q1 _ _ O1 (set_rss ((S.step s1).grow (.inr ⟨p, .tup vs, np, rfl⟩)) S.fr.there (RsL.grow np rvs) e2))⟩⟩
  · exact q1.elim
theorem sw_par3 {x y z : Str} {px py pz pt pt2 : Pos} {kt k2 : Nat} {a b c : Expr} {env : Env} (hk : (env.blockKind == .function) = true) (hx : env.kindOf x = some .local) (hy : env.kindOf y = some .local) (hz : env.kindOf z = some .local) (hl : (py.line == px.line) = true) (hl2 : (pz.line == px.line) = true) (hxy : x ≠ y) (hxz : x ≠ z) (hyz : y ≠ z)
    (na : notStarB a = true) (nb : notStarB b = true) (nc : notStarB c = true)
    (hf : [a, b, c].all (foldedForSure 8) = false) (hc : [a, b, c].all (constantsAlone 8) = false) : swappedStores [.Tuple [.Name x px, .Name y py, .Name z pz] kt pt] (.Tuple [a, b, c] k2 pt2) env = pure (some [x, y, z]) := by
  have hl' : py.line = px.line := by simpa using hl
  have hl2' : pz.line = px.line := by simpa using hl2
  have hk' : env.blockKind = .function := by simpa using hk
  have e1 : (y == x) = false := by simpa using hxy.symm
  have e2 : (z == x) = false := by simpa using hxz.symm
  have e3 : (z == y) = false := by simpa using hyz.symm
  have st : ∀ d : Expr, notStarB d = true → ¬ ((match d with | .Starred .. => true | _ => false) = true) := fun d nd h => by
    cases d <;> first | exact absurd nd Bool.false_ne_true | exact absurd h Bool.false_ne_true
  unfold swappedStores
  simp only [List.length_cons, List.length_nil, hk', hf, hc]
  simp [hx, hy, hz, hl', hl2', hxy, hxz, hyz, List.eraseDups_cons, List.filterMap_cons, Expr.pos]
  refine (if_neg ?_).trans ?_
  · intro h
    rcases h with h | h | h
    · exact st a na h
    · exact st b nb h
    · exact st c nc h
  · simp [e1, e2, e3, List.eraseDups_cons]
theorem ds_par3 {g : Gm} {E : En} {W : WX} {X : Cx} {pos : Pos} (C : CtxOk g X) {i j l : Nat} {x y z : Str} {a b c : Expr} {px py pz pt pt2 : Pos} {kt k2 : Nat} {sa sb sc : Sm} (hi : X.N[i]? = some x) (hj : X.N[j]? = some y) (hl : X.N[l]? = some z) (hij : i ≠ j) (hil : i ≠ l) (hjl : j ≠ l) (hx : X.env.scope.names.lookup x = some .local) (hy : X.env.scope.names.lookup y = some .local) (hz : X.env.scope.names.lookup z = some .local)
    (h : Paired (AS g W X) [a, b, c] [sa, sb, sc]) (hw : swappedStores [.Tuple [.Name x px, .Name y py, .Name z pz] kt pt] (.Tuple [a, b, c] k2 pt2) X.env = pure (some [x, y, z])) :
    PS X (.Assign [.Tuple [.Name x px, .Name y py, .Name z pz] kt pt] (.Tuple [a, b, c] k2 pt2) pos) (tS g W E (parV [i, j, l] [sa, sb, sc])) := by
  refine psImp (ps_par3 C.calm C.nd hi hj hl hij hil hjl hx hy hz (pas_rs h) hw sw_tup) fun D σ H ⟨O, ρ, S, q⟩ => ?_
  refine ⟨O, ρ, S.st, (so_rw S q).imp fun rs ρ1 q1 vs H1 O1 s1 rvs => ?_⟩
  split at q1
  · rename_i ρ2 e2
    have len : ∀ (is : List Nat) (rs : List Rs) (ρ ρ' : Rho), setRss is rs ρ = some ρ' → rs.length = is.length := by
      intro is
      induction is with
      | nil => intro rs ρ ρ' e; cases rs <;> first | rfl | cases e
      | cons i is ih =>
        intro rs ρ ρ' e
        cases rs with
        | nil => cases e
        | cons r rs =>
          obtain ⟨ρ3, _, e3⟩ := Option.bind_eq_some_iff.mp (show (setRs i r ρ).bind (setRss is rs) = some ρ' from e)
          rw [List.length_cons, List.length_cons, ih _ _ _ e3]
    have n3 := len _ _ _ _ e2
    have key : vs.length = rs.length := by
      clear e2 q1 n3 q
      induction rvs with
      | nil => rfl
      | sh _ _ ih => rw [List.length_cons, List.length_cons, ih]
      | fr _ _ _ _ _ _ ih => rw [List.length_cons, List.length_cons, ih]
    rw [n3] at key
    match vs, key with
    | [u, v, w], _ => exact ⟨u, v, w, rfl, q1 _ H1 O1 (set_rss (S.step s1) S.fr.there rvs e2)⟩
  · exact q1.elim
/-- target, value, line -/
def vAsg : Stmt → Option (Expr × Expr)
  | .Assign [t] v _ => some (t, v)
  | _ => none
/-- a += e -/
def vAug : Stmt → Option (Expr × Expr)
  | .AugAssign t .Add v _ => some (t, v)
  | _ => none
theorem vAug_eq {s : Stmt} {t v : Expr} (h : vAug s = some (t, v)) : ∃ p, s = .AugAssign t .Add v p := by
  unfold vAug at h; split at h
  · cases h; exact ⟨_, rfl⟩
  · cases h
def KC.tgSt (c : KC) : List Nat → Nat → List Expr → Bool
  | [], j, [.Starred t _] => c.tg1 j t
  | i :: is, j, e :: es => c.tg1 i e && c.tgSt is j es
  | _, _, _ => false
theorem CtxK.tgSt_ok {g : Gm} {cf : Fn} {W : WX} {X : Cx} {c : KC} (Z : CtxK g cf W X c) {j : Nat} : ∀ {is : List Nat} {es : List Expr}, c.tgSt is j es = true → PGs X es (gSt is j) ∧ (assignEach es X.env).length = is.length + 1 ∧ (assignEach es X.env).findIdx? (·.1) = some is.length
  | [], [.Starred t _], h => ⟨pgs_star (Z.tg1_ok (show c.tg1 j t = true from h)).1, rfl, rfl⟩
  | i :: is, e :: es, h => by
    obtain ⟨h1, h2⟩ := and3 (show (c.tg1 i e && c.tgSt is j es) = true from h)
    obtain ⟨p1, x, p, rfl, hN, hl, hf⟩ := Z.tg1_ok h1
    obtain ⟨p2, l2, f2⟩ := CtxK.tgSt_ok Z h2
    refine ⟨pgs_cons p1 p2 rfl, ?_, ?_⟩
    · show (_ :: assignEach es X.env).length = _
      rw [List.length_cons, l2, List.length_cons]
    · show List.findIdx? (·.1) ((false, assign (.Name x p) X.env) :: assignEach es X.env) = _
      rw [List.findIdx?_cons, f2]
      rfl
def vExp : Stmt → Option Expr
  | .Expr e _ => some e
  | _ => none
def vApp : Expr → Option (Expr × Expr)
  | .Call (.Attribute o a pa) [e] [] pc => if decide (a = ("append" : Str)) && pa.endLine == pc.line then some (o, e) else none
  | _ => none
def vExt : Expr → Option (Expr × Expr)
  | .Call (.Attribute o a pa) [e] [] pc => if decide (a = ("extend" : Str)) && pa.endLine == pc.line then some (o, e) else none
  | _ => none
def vIfS : Stmt → Option (Expr × List Stmt × List Stmt)
  | .If c a b _ => some (c, a, b)
  | _ => none
def vFor : Stmt → Option (Expr × Expr × List Stmt)
  | .For t i b [] _ => some (t, i, b)
  | _ => none
def vWhl : Stmt → Option (Expr × List Stmt)
  | .While c b [] _ => some (c, b)
  | _ => none
def vRet : Stmt → Option (Option Expr)
  | .Return e _ => some e
  | _ => none
def vPass : Stmt → Bool
  | .Pass _ => true
  | .Expr (.Constant (.str _) _ _) _ => true
  | _ => false
def vBrk : Stmt → Bool
  | .Break _ => true
  | _ => false
def vCnt : Stmt → Bool
  | .Continue _ => true
  | _ => false
theorem vAsg_eq {s : Stmt} {t v : Expr} (h : vAsg s = some (t, v)) : ∃ p, s = .Assign [t] v p := by
  unfold vAsg at h; split at h
  · cases h; exact ⟨_, rfl⟩
  · cases h
theorem vExp_eq {s : Stmt} {e : Expr} (h : vExp s = some e) : ∃ p, s = .Expr e p := by
  unfold vExp at h; split at h
  · cases h; exact ⟨_, rfl⟩
  · cases h
theorem vApp_eq {f o e : Expr} (h : vApp f = some (o, e)) : ∃ pa pc, f = .Call (.Attribute o "append" pa) [e] [] pc ∧ (pa.endLine == pc.line) = true := by
  unfold vApp at h; split at h
  · split at h
    · rename_i hc
      obtain ⟨h1, h2⟩ := and3 hc
      cases h
      have := of_decide_eq_true h1
      subst this
      exact ⟨_, _, rfl, h2⟩
    · cases h
  · cases h
theorem vExt_eq {f o e : Expr} (h : vExt f = some (o, e)) : ∃ pa pc, f = .Call (.Attribute o "extend" pa) [e] [] pc ∧ (pa.endLine == pc.line) = true := by
  unfold vExt at h; split at h
  · split at h
    · rename_i hc
      obtain ⟨h1, h2⟩ := and3 hc
      cases h
      have := of_decide_eq_true h1
      subst this
      exact ⟨_, _, rfl, h2⟩
    · cases h
  · cases h
theorem vIfS_eq {s : Stmt} {e : Expr} {a b : List Stmt} (h : vIfS s = some (e, a, b)) : ∃ p, s = .If e a b p := by
  unfold vIfS at h; split at h
  · cases h; exact ⟨_, rfl⟩
  · cases h
theorem vFor_eq {s : Stmt} {t i : Expr} {b : List Stmt} (h : vFor s = some (t, i, b)) : ∃ p, s = .For t i b [] p := by
  unfold vFor at h; split at h
  · cases h; exact ⟨_, rfl⟩
  · cases h
theorem vWhl_eq {s : Stmt} {t : Expr} {b : List Stmt} (h : vWhl s = some (t, b)) : ∃ p, s = .While t b [] p := by
  unfold vWhl at h; split at h
  · cases h; exact ⟨_, rfl⟩
  · cases h
theorem vRet_eq {s : Stmt} {e : Option Expr} (h : vRet s = some e) : ∃ p, s = .Return e p := by
  unfold vRet at h; split at h
  · cases h; exact ⟨_, rfl⟩
  · cases h
theorem sw_fold {ts vs : List Expr} {kt k2 : Nat} {p p2 : Pos} {env : Env} (h : vs.all (foldedForSure 8) = true) : swappedStores [.Tuple ts kt p] (.Tuple vs k2 p2) env = pure none := by
  unfold swappedStores
  simp only [h, if_true]
  repeat' split
  all_goals rfl
def foldB : Expr → Bool
  | .Tuple vs _ _ => vs.all (foldedForSure 8)
  | _ => false
/-- .. as a look -/
def cellB0 (sc : Scope) : List Expr → Expr → Bool
  | [.Name x _, .Name y _], .Tuple [a, b] _ _ => !(decide (sc.names.lookup x = some .local) && decide (sc.names.lookup y = some .local)) && notStarB a && notStarB b
  | [.Name x _, .Name y _, .Name z _], .Tuple [a, b, c] _ _ => !(decide (sc.names.lookup x = some .local) && decide (sc.names.lookup y = some .local) && decide (sc.names.lookup z = some .local)) && notStarB a && notStarB b && notStarB c
  | _, _ => false
def cellB (sc : Scope) (ts : List Expr) (v : Expr) : Bool := foldB v || cellB0 sc ts v
theorem st_of {sc : Scope} {v : Expr} {env : Env} {ts : List Expr} {k : Nat} {p : Pos} (e : env.scope = sc) (h : (notTupB v || cellB sc ts v) = true) : swappedStores [.Tuple ts k p] v env = pure none := by
  subst e
  cases q : notTupB v with
  | true => exact st_tup q
  | false =>
    rw [q, Bool.false_or] at h
    unfold cellB at h
    cases qf : foldB v with
    | true =>
      unfold foldB at qf
      split at qf
      · exact sw_fold qf
      · cases qf
    | false =>
    rw [qf, Bool.false_or] at h
    unfold cellB0 at h
    split at h
    · rename_i x px y py a b k2 p2
      obtain ⟨h1, h2⟩ := and3 h
      obtain ⟨h3, h4⟩ := and3 h1
      refine sw_cell (fun ⟨z1, z2⟩ => ?_) h4 h2
      have z1' : env.scope.names.lookup x = some .local := z1
      have z2' : env.scope.names.lookup y = some .local := z2
      rw [z1', z2'] at h3
      cases h3
    · rename_i x px y py z pz a b c k2 p2
      obtain ⟨h, h2⟩ := and3 h
      obtain ⟨h, h4⟩ := and3 h
      obtain ⟨h3, h5⟩ := and3 h
      refine sw_cell3 (fun ⟨z1, z2, z3⟩ => ?_) h5 h4 h2
      have z1' : env.scope.names.lookup x = some .local := z1
      have z2' : env.scope.names.lookup y = some .local := z2
      have z3' : env.scope.names.lookup z = some .local := z3
      rw [z1', z2', z3'] at h3
      cases h3
    · cases h
/-- raise x(v) -/
def vRse : Stmt → Option (Str × Expr)
  | .Raise (some (.Call (.Name x _) [v] [] _)) none _ => some (x, v)
  | _ => none
theorem vRse_eq {s : Stmt} {x : Str} {v : Expr} (h : vRse s = some (x, v)) : ∃ p1 p2 p3, s = .Raise (some (.Call (.Name x p1) [v] [] p2)) none p3 := by
  unfold vRse at h
  split at h
  · cases h; exact ⟨_, _, _, rfl⟩
  · cases h
/-- try: b except r as n: y = m -/
def vTry : Stmt → Option (Stmt × Str × Str × Str × Str)
  | .Try [b] [.ExceptHandler (some (.Name r _)) (some n) [.Assign [.Name y _] (.Name m _) _] _] [] [] _ => some (b, r, n, y, m)
  | _ => none
theorem vTry_eq {s b : Stmt} {r n y m : Str} (h : vTry s = some (b, r, n, y, m)) : ∃ p1 p2 p3 p4 p5 p6, s = .Try [b] [.ExceptHandler (some (.Name r p1)) (some n) [.Assign [.Name y p2] (.Name m p3) p4] p5] [] [] p6 := by
  unfold vTry at h
  split at h
  · cases h; exact ⟨_, _, _, _, _, _, rfl⟩
  · cases h
def chkT : TB → CE → KC → Stmt → Bool
  | .ret, e, c, s => match vRet s with
    | some (some v) => chkE e c v
    | _ => false
  | .exp, e, c, s => match vExp s with
    | some v => notCompB v && chkE e c v
    | none => false
  | .asg k, e, c, s => match vAsg s with
    | some (.Name x px, v) => c.tg1 k (.Name x px) && !swB c.sc x px v && chkE e c v
    | _ => false
mutual
def chkS : CS → KC → Stmt → Bool
  | .rse x f e, c, s => match vRse s with
    | some (y, v) => decide (x = y) && glB c.sc x && plB x && decide (c.xn x = some f) && notStarB v && chkE e c v
    | none => false
  | .tryx m e i j r, c, s => match vTry s with
    | some (b, r', n, y, n') => decide (r = ("ReachError" : Str)) && decide (r' = r) && decide (n' = n) && decide (c.N[i]? = some y) && decide (c.N[j]? = some n) && decide (i ≠ j) && decide (c.sc.names.lookup n = some .local) && locB c.sc y && (c.fnb y || decide (c.sc.names.lookup y = some .local)) && plB n && glB c.sc r && plB r && c.xi r && chkT m e { c with lam := false } b
    | none => false
  | .tryc m e i j r, c, s => match vTry s with
    | some (b, r', n, y, n') => (c.xn r).isSome && decide (r' = r) && decide (n' = n) && decide (c.N[i]? = some y) && decide (c.N[j]? = some n) && decide (i ≠ j) && decide (c.sc.names.lookup n = some .local) && locB c.sc y && (c.fnb y || decide (c.sc.names.lookup y = some .local)) && plB n && glB c.sc r && plB r && chkT m e { c with lam := false } b
    | none => false
  | .asg i e, c, s => match vAsg s with
    | some (.Name x px, v) => c.tg1 i (.Name x px) && (match swB c.sc x px v with
      | false => chkE e c v
      | true => (match e with
        | .lc .. => chkE e c v
        | _ => false) && decide (c.sc.names.lookup x = some .local))
    | _ => false
  | .asgT is e, c, s => match vAsg s with
    | some (.Tuple ts k p, v) => c.tg (.tp is) (.Tuple ts k p) && (notTupB v || cellB c.sc ts v) && chkE e c v
    | _ => false
  | .asgL is e, c, s => match vAsg s with
    | some (.Tuple ts k p, v) => c.tg (.tp is) (.Tuple ts k p) && (notTupB v || cellB c.sc ts v) && chkE e c v
    | _ => false
  | .par is es, c, s => (match vAsg s with
    | some (.Tuple ts k p, .Tuple vs k2 p2) => decide (is.length ≤ 3) && c.tg (.tp is) (.Tuple ts k p) && cellB c.sc ts (.Tuple vs k2 p2) && chkEs es c vs
    | _ => false) || (match is, es, vAsg s with
    | [i, j], .cons a (.cons b .nil), some (.Tuple [.Name x px, .Name y py] _ _, .Tuple [u, v] _ _) => decide (c.N[i]? = some x) && decide (c.N[j]? = some y) && decide (i ≠ j) && decide (c.sc.names.lookup x = some .local) && decide (c.sc.names.lookup y = some .local) && (blkKind c.sc == .function) && (py.line == px.line) && decide (x ≠ y) &&
        notStarB u && notStarB v && !([u, v].all (foldedForSure 8)) && !([u, v].all (constantsAlone 8)) && chkE a c u && chkE b c v
    | [i, j, l], .cons a (.cons b (.cons d .nil)), some (.Tuple [.Name x px, .Name y py, .Name z pz] _ _, .Tuple [u, v, t] _ _) => decide (c.N[i]? = some x) && decide (c.N[j]? = some y) && decide (c.N[l]? = some z) && decide (i ≠ j) && decide (i ≠ l) && decide (j ≠ l) && decide (c.sc.names.lookup x = some .local) && decide (c.sc.names.lookup y = some .local) && decide (c.sc.names.lookup z = some .local) && (blkKind c.sc == .function) && (py.line == px.line) && (pz.line == px.line) && decide (x ≠ y) && decide (x ≠ z) && decide (y ≠ z) &&
        notStarB u && notStarB v && notStarB t && !([u, v, t].all (foldedForSure 8)) && !([u, v, t].all (constantsAlone 8)) && chkE a c u && chkE b c v && chkE d c t
    | _, _, _ => false)
  | .asgS is j e, c, s => match vAsg s with
    | some (.Tuple ts _ _, v) => c.tgSt is j ts && notTupB v && chkE e c v
    | _ => false
  | .aug i e, c, s => match vAug s with
    | some (.Name x px, v) => c.tg1 i (.Name x px) && chkE e c v
    | _ => false
  | .seti i k e, c, s => match vAsg s with
    | some (.Subscript o j _, v) => c.rd i o && notSliceB j && chkE k c j && chkE e c v
    | _ => false
  | .setd i k e, c, s => match vAsg s with
    | some (.Subscript o j _, v) => c.rd i o && notSliceB j && chkE k c j && chkE e c v
    | _ => false
  | .app i e, c, s => match vExp s with
    | some f => (match vApp f with
      | some (o, v) => c.rd i o && notStarB v && chkE e c v
      | none => false)
    | none => false
  | .ext i e, c, s => match vExp s with
    | some f => (match vExt f with
      | some (o, v) => c.rd i o && notStarB v && chkE e c v
      | none => false)
    | none => false
  | .exp e, c, s => match vExp s with
    | some v => notCompB v && chkE e c v
    | none => false
  | .ifs t a b, c, s => match vIfS s with
    | some (x, y, z) => chkE t c x && chkSs a c y && chkSs b c z
    | none => false
  | .fors tg it b, c, s => match vFor s with
    | some (t, i, y) => chkI it c i t && notSetB i && c.tg tg t && chkSs b c y
    | none => false
  | .whl _ t b, c, s => match vWhl s with
    | some (x, y) => chkE t c x && chkSs b c y
    | none => false
  | .ret e, c, s => match vRet s with
    | some (some v) => chkE e c v
    | _ => false
  | .retN, _, s => match vRet s with
    | some none => true
    | _ => false
  | .pass, _, s => vPass s
  | .brk, _, s => vBrk s
  | .cnt, _, s => vCnt s
  | .nev, _, _ => true
def chkSs : CSs → KC → List Stmt → Bool
  | .nil, _, [] => true
  | .cons a as, c, s :: ss => chkS a c s && chkSs as c ss
  | _, _, _ => false
end
section
variable {g : Gm} {cf : Fn} {W : WX} {X : Cx} {c : KC} (Z : CtxK g cf W X c)
include Z
theorem chkT_ok {E : En} : ∀ {m : TB} {e : CE} {s : Stmt}, chkT m e c s = true → PS X s (tS g W E (tbV m (sm cf e)))
  | .ret, e, s, h => by
    dsimp only [chkT] at h
    split at h
    · rename_i v q
      obtain ⟨p', rfl⟩ := vRet_eq q
      exact ds_ret (chkE_ok e Z h).r
    · cases h
  | .exp, e, s, h => by
    dsimp only [chkT] at h
    split at h
    · rename_i v q
      obtain ⟨p', rfl⟩ := vExp_eq q
      obtain ⟨h1, h2⟩ := and3 h
      exact ds_exp (chkE_ok e Z h2).v (sw_none h1)
    · cases h
  | .asg k, e, s, h => by
    dsimp only [chkT] at h
    split at h
    · rename_i x px v q
      obtain ⟨p, rfl⟩ := vAsg_eq q
      obtain ⟨h1, h2⟩ := and3 h
      obtain ⟨h1, h3⟩ := and3 h1
      obtain ⟨_, x', p', ex, hN, hl, hf⟩ := Z.tg1_ok h1
      cases ex
      exact ds_asg Z.C hN hl (chkE_ok e Z h2).v (by
        have e3 : swB c.sc x px v = false := by simpa using h3
        rw [swB_ok Z.sc, e3]) hf
    · cases h
variable (hst : X.stack = X.env :: X.outer ∧ X.env.frame = some X.env.locals) (hp : PassesOwn (model X.prog X.w) X.A X.env X.xe)
include hp
/-- a comprehension under a name of its line -/
theorem chk_lcS {E : En} {tg : CT} {it : CI} {ifs : CEs} {el : CE} {i : Nat} {x : Str} {px spos : Pos} {v : Expr} (hN : X.N[i]? = some x) (hl : X.env.scope.names.lookup x = some .local) (hsw : swapsWith v (some (.Name x px)) spos.line X.env = pure true)
    (h : chkE (.lc tg it ifs el) c v = true) : PS X (.Assign [.Name x px] v spos) (tS g W E (asgV i (sm cf (.lc tg it ifs el)))) := by
  unfold chkE at h
  split at h
  · rename_i x' t iter fs sc q
    obtain ⟨p, rfl⟩ := vLc_eq q
    obtain ⟨h1, he⟩ := and3 h
    obtain ⟨h2, hf⟩ := and3 h1
    obtain ⟨h3, hfw⟩ := and3 h2
    obtain ⟨h4, ht⟩ := and3 h3
    obtain ⟨h5, hb⟩ := and3 h4
    obtain ⟨hi, hs⟩ := and3 h5
    have hb' : BlkOk X.N X.env.scope sc (ownOf c.N tg.ix) := by rw [Z.N, Z.sc]; exact blkOk_by hb
    exact ds_asgLc Z.C hN hl hsw (chkI_ok it Z hi) hb' (CtxK.own_ok Z)
        (fun s H C cl fp => (Z.blk s H sc cl C fp).tg_ok ht)
        (fun s H C cl fp => pts_few (Z.blk s H sc cl C fp) (chkEs_ok ifs (Z.blk s H sc cl C fp) hf) hfw)
        (fun s H C cl fp => (chkE_ok el (Z.blk s H sc cl C fp) he).v)
        (fun v => by cases iter <;> first | rfl | cases hs)
  · cases h
include hst
mutual
theorem chkS_ok : ∀ (cs : CS) {E : En} {s : Stmt}, chkS cs c s = true → PS X s (tS g W E (ss cf cs))
  | .asg i e, E, s, h => by
    unfold chkS at h
    split at h
    · rename_i x px v q
      obtain ⟨p, rfl⟩ := vAsg_eq q
      obtain ⟨h1, h2⟩ := and3 h
      obtain ⟨_, x', p', ex, hN, hl, hf⟩ := Z.tg1_ok h1
      cases ex
      split at h2
      · rename_i hsw
        exact ds_asg Z.C hN hl (chkE_ok e Z h2).v (by rw [swB_ok Z.sc, hsw]) hf
      · rename_i hsw
        obtain ⟨h3, h4⟩ := and3 h2
        split at h3
        · exact chk_lcS Z hp hN (by rw [Z.sc]; exact of_decide_eq_true h4) (by rw [swB_ok Z.sc, hsw]) h3
        · cases h3
    · cases h
  | .asgT is e, E, s, h => by
    unfold chkS at h
    split at h
    · rename_i ts k p v q
      obtain ⟨p', rfl⟩ := vAsg_eq q
      obtain ⟨h1, h2⟩ := and3 h
      obtain ⟨h3, h4⟩ := and3 h1
      exact ds_asgT Z.C (chkE_ok e Z h2).v (Z.tg_ok h3) sw_tup (st_of Z.sc h4) rfl
    · cases h
  | .asgL is e, E, s, h => by
    unfold chkS at h
    split at h
    · rename_i ts k p v q
      obtain ⟨p', rfl⟩ := vAsg_eq q
      obtain ⟨h1, h2⟩ := and3 h
      obtain ⟨h3, h4⟩ := and3 h1
      have hg : PG X (.Tuple ts k p) (gLst X.K is.length (gNs is)) := by
        have h3' : c.tgs is ts = true := h3
        obtain ⟨g1, g2, g3⟩ := Z.tgs_ok h3'
        exact pg_lst Z.C.calm g1 g2 g3
      exact ds_asgL Z.C (chkE_ok e Z h2).v hg sw_tup (st_of Z.sc h4) rfl
    · cases h
  | .par is es, E, s, h => by
    unfold chkS at h
    rw [Bool.or_eq_true] at h
    rcases h with h | h
    · split at h
      · rename_i ts k p vs k2 p2 q
        obtain ⟨p', rfl⟩ := vAsg_eq q
        obtain ⟨h1, h2⟩ := and3 h
        obtain ⟨h0, h4⟩ := and3 h1
        obtain ⟨h5, h3⟩ := and3 h0
        exact ds_parT Z.C (Z.tg_ok h3) (Nat.le_trans (of_decide_eq_true h5) (by decide)) (chkEs_ok es Z h2) (st_of Z.sc (by rw [h4, Bool.or_true]))
      · cases h
    split at h
    · rename_i i j a b x px y py k1 p1 u v k2 p2 q
      obtain ⟨p, rfl⟩ := vAsg_eq q
      obtain ⟨h, hb⟩ := and3 h
      obtain ⟨h, ha⟩ := and3 h
      obtain ⟨h, h12⟩ := and3 h
      obtain ⟨h, h11⟩ := and3 h
      obtain ⟨h, h10⟩ := and3 h
      obtain ⟨h, h9⟩ := and3 h
      obtain ⟨h, h8⟩ := and3 h
      obtain ⟨h, h7⟩ := and3 h
      obtain ⟨h, h6⟩ := and3 h
      obtain ⟨h, h5⟩ := and3 h
      obtain ⟨h, h4⟩ := and3 h
      obtain ⟨h, h3⟩ := and3 h
      obtain ⟨h1, h2⟩ := and3 h
      have lx : X.env.scope.names.lookup x = some .local := by rw [Z.sc]; exact of_decide_eq_true h4
      have ly : X.env.scope.names.lookup y = some .local := by rw [Z.sc]; exact of_decide_eq_true h5
      have bk : (X.env.blockKind == .function) = true := by
        show ((if X.env.scope.kind.isAnnotationScope then ScopeKind.function else X.env.scope.kind) == .function) = true
        rw [Z.sc]
        exact h6
      exact ds_par Z.C (by rw [Z.N]; exact of_decide_eq_true h1) (by rw [Z.N]; exact of_decide_eq_true h2) (of_decide_eq_true h3) lx ly (.cons ⟨chkE_ok a Z ha, notStar_of h9⟩ (.cons ⟨chkE_ok b Z hb, notStar_of h10⟩ .nil))
        (sw_par bk lx ly h7 (of_decide_eq_true h8) h9 h10 (by rw [Bool.not_eq_true'] at h11; exact h11) (by rw [Bool.not_eq_true'] at h12; exact h12))
    · rename_i i j l a b d x px y py z pz k1 g1 u v t k2 g2 q
      obtain ⟨p, rfl⟩ := vAsg_eq q
      obtain ⟨h, hd⟩ := and3 h
      obtain ⟨h, hb⟩ := and3 h
      obtain ⟨h, ha⟩ := and3 h
      obtain ⟨h, c0⟩ := and3 h
      obtain ⟨h, f0⟩ := and3 h
      obtain ⟨h, n3⟩ := and3 h
      obtain ⟨h, n2⟩ := and3 h
      obtain ⟨h, n1⟩ := and3 h
      obtain ⟨h, d3⟩ := and3 h
      obtain ⟨h, d2⟩ := and3 h
      obtain ⟨h, d1⟩ := and3 h
      obtain ⟨h, hl2⟩ := and3 h
      obtain ⟨h, hl⟩ := and3 h
      obtain ⟨h, bk0⟩ := and3 h
      obtain ⟨h, lz0⟩ := and3 h
      obtain ⟨h, ly0⟩ := and3 h
      obtain ⟨h, lx0⟩ := and3 h
      obtain ⟨h, q3⟩ := and3 h
      obtain ⟨h, q2⟩ := and3 h
      obtain ⟨h, q1⟩ := and3 h
      obtain ⟨h, p3⟩ := and3 h
      obtain ⟨h, p2⟩ := and3 h
      have p1 := h
      have lx : X.env.scope.names.lookup x = some .local := by rw [Z.sc]; exact of_decide_eq_true lx0
      have ly : X.env.scope.names.lookup y = some .local := by rw [Z.sc]; exact of_decide_eq_true ly0
      have lz : X.env.scope.names.lookup z = some .local := by rw [Z.sc]; exact of_decide_eq_true lz0
      have bk : (X.env.blockKind == .function) = true := by
        show ((if X.env.scope.kind.isAnnotationScope then ScopeKind.function else X.env.scope.kind) == .function) = true
        rw [Z.sc]
        exact bk0
      exact ds_par3 Z.C (by rw [Z.N]; exact of_decide_eq_true p1) (by rw [Z.N]; exact of_decide_eq_true p2) (by rw [Z.N]; exact of_decide_eq_true p3) (of_decide_eq_true q1) (of_decide_eq_true q2) (of_decide_eq_true q3) lx ly lz (.cons ⟨chkE_ok a Z ha, notStar_of n1⟩ (.cons ⟨chkE_ok b Z hb, notStar_of n2⟩ (.cons ⟨chkE_ok d Z hd, notStar_of n3⟩ .nil)))
        (sw_par3 bk lx ly lz hl hl2 (of_decide_eq_true d1) (of_decide_eq_true d2) (of_decide_eq_true d3) n1 n2 n3 (by rw [Bool.not_eq_true'] at f0; exact f0) (by rw [Bool.not_eq_true'] at c0; exact c0))
    · cases h
  | .asgS is j e, E, s, h => by
    unfold chkS at h
    split at h
    · rename_i ts k p v q
      obtain ⟨p', rfl⟩ := vAsg_eq q
      obtain ⟨h1, h2⟩ := and3 h
      obtain ⟨h3, h4⟩ := and3 h1
      obtain ⟨q1, q2, q3⟩ := Z.tgSt_ok h3
      exact ds_asgS Z.C (chkE_ok e Z h2).v (pg_star Z.C.calm q1 q2 q3) sw_tup (st_tup h4) rfl
    · cases h
  | .aug i e, E, s, h => by
    unfold chkS at h
    split at h
    · rename_i x px v q
      obtain ⟨p', rfl⟩ := vAug_eq q
      obtain ⟨h1, h2⟩ := and3 h
      obtain ⟨_, x', p2, ex, hN, hl, hf⟩ := Z.tg1_ok h1
      cases ex
      exact ds_aug Z.C hN hl (chkE_ok e Z h2).v hf
    · cases h
  | .seti i k e, E, s, h => by
    unfold chkS at h
    split at h
    · rename_i o j p v q
      obtain ⟨p', rfl⟩ := vAsg_eq q
      obtain ⟨h1, h2⟩ := and3 h
      obtain ⟨h3, h4⟩ := and3 h1
      obtain ⟨h5, h6⟩ := and3 h3
      obtain ⟨x, px, rfl, hN, hv, h7, h8⟩ := Z.rdv h5
      exact ds_seti Z.C (pe_var hN hv h7 h8) (chkE_ok k Z h4).v (chkE_ok e Z h2).v sw_sub st_sub rfl (fun u => by cases j <;> first | rfl | cases h6)
    · cases h
  | .setd i k e, E, s, h => by
    unfold chkS at h
    split at h
    · rename_i o j p v q
      obtain ⟨p', rfl⟩ := vAsg_eq q
      obtain ⟨h1, h2⟩ := and3 h
      obtain ⟨h3, h4⟩ := and3 h1
      obtain ⟨h5, h6⟩ := and3 h3
      obtain ⟨x, px, rfl, hN, hv, h7, h8⟩ := Z.rdv h5
      exact ds_setd Z.C (pe_var hN hv h7 h8) (chkE_ok k Z h4).v (chkE_ok e Z h2).v sw_sub st_sub rfl (fun u => by cases j <;> first | rfl | cases h6)
    · cases h
  | .app i e, E, s, h => by
    unfold chkS at h
    split at h
    · rename_i f q
      obtain ⟨p', rfl⟩ := vExp_eq q
      split at h
      · rename_i o v q2
        obtain ⟨pa, pc, rfl, hl⟩ := vApp_eq q2
        obtain ⟨h1, h2⟩ := and3 h
        obtain ⟨h3, h4⟩ := and3 h1
        obtain ⟨x, px, rfl, hN, hv, h7, h8⟩ := Z.rdv h3
        exact ds_app Z.C (pe_var hN hv h7 h8) ⟨chkE_ok e Z h2, notStar_of h4⟩ hl
      · cases h
    · cases h
  | .ext i e, E, s, h => by
    unfold chkS at h
    split at h
    · rename_i f q
      obtain ⟨p', rfl⟩ := vExp_eq q
      split at h
      · rename_i o v q2
        obtain ⟨pa, pc, rfl, hl⟩ := vExt_eq q2
        obtain ⟨h1, h2⟩ := and3 h
        obtain ⟨h3, h4⟩ := and3 h1
        obtain ⟨x, px, rfl, hN, hv, h7, h8⟩ := Z.rdv h3
        exact ds_ext Z.C (pe_var hN hv h7 h8) ⟨chkE_ok e Z h2, notStar_of h4⟩ hl
      · cases h
    · cases h
  | .exp e, E, s, h => by
    unfold chkS at h
    split at h
    · rename_i v q
      obtain ⟨p', rfl⟩ := vExp_eq q
      obtain ⟨h1, h2⟩ := and3 h
      exact ds_exp (chkE_ok e Z h2).v (sw_none h1)
    · cases h
  | .ifs t a b, E, s, h => by
    unfold chkS at h
    split at h
    · rename_i x y z q
      obtain ⟨p', rfl⟩ := vIfS_eq q
      obtain ⟨h1, h2⟩ := and3 h
      obtain ⟨h3, h4⟩ := and3 h1
      exact ds_if (chkE_ok t Z h3).t (chkSs_ok a h4) (chkSs_ok b h2)
    · cases h
  | .fors tg it b, E, s, h => by
    unfold chkS at h
    split at h
    · rename_i t i y q
      obtain ⟨p', rfl⟩ := vFor_eq q
      obtain ⟨h1, h2⟩ := and3 h
      obtain ⟨h3, h4⟩ := and3 h1
      obtain ⟨h5, h6⟩ := and3 h3
      exact ds_for Z.C hp (chkI_ok it Z h5) (Z.tg_ok h4) (fun E => chkSs_ok b h2) (fun v => by cases i <;> first | rfl | cases h6)
    · cases h
  | .whl n t b, E, s, h => by
    unfold chkS at h
    split at h
    · rename_i x y q
      obtain ⟨p', rfl⟩ := vWhl_eq q
      obtain ⟨h1, h2⟩ := and3 h
      exact ds_whl Z.C hp (chkE_ok t Z h1).t (fun E => chkSs_ok b h2)
    · cases h
  | .ret e, E, s, h => by
    unfold chkS at h
    split at h
    · rename_i v q
      obtain ⟨p', rfl⟩ := vRet_eq q
      exact ds_ret (chkE_ok e Z h).r
    · cases h
  | .retN, E, s, h => by
    unfold chkS at h
    split at h
    · rename_i q
      obtain ⟨p', rfl⟩ := vRet_eq q
      exact ds_retN
    · cases h
  | .pass, E, s, h => by
    have h' : vPass s = true := h
    unfold vPass at h'
    split at h'
    · exact ds_pass
    · exact ds_doc
    · cases h'
  | .brk, E, s, h => by
    have h' : vBrk s = true := h
    unfold vBrk at h'
    split at h'
    · exact ds_brk
    · cases h'
  | .cnt, E, s, h => by
    have h' : vCnt s = true := h
    unfold vCnt at h'
    split at h'
    · exact ds_cnt
    · cases h'
  | .nev, E, s, h => ds_nev
  | .rse x f e, E, s, h => by
    unfold chkS at h
    split at h
    · rename_i y v q
      obtain ⟨p1, p2, p3, rfl⟩ := vRse_eq q
      obtain ⟨h1, he⟩ := and3 h
      obtain ⟨h1, hs⟩ := and3 h1
      obtain ⟨h1, hx⟩ := and3 h1
      obtain ⟨h1, hpl⟩ := and3 h1
      obtain ⟨h1, hgl⟩ := and3 h1
      cases of_decide_eq_true h1
      obtain ⟨C, F⟩ := Z.mf.xn _ _ (of_decide_eq_true hx)
      exact ds_rse Z.C Z.tk F (Z.rm.mono (by omega)) (Z.gl hgl) (plB_ok hpl).1 ⟨chkE_ok e Z he, notStar_of hs⟩
    · cases h
  | .tryx m e i j r, E, s, h => by
    unfold chkS at h
    split at h
    · rename_i b r' n y n' q
      obtain ⟨p1, p2, p3, p4, p5, p6, rfl⟩ := vTry_eq q
      obtain ⟨h, ht⟩ := and3 h
      obtain ⟨h, hxi⟩ := and3 h
      obtain ⟨h, hpr⟩ := and3 h
      obtain ⟨h, hgr⟩ := and3 h
      obtain ⟨h, hpn⟩ := and3 h
      obtain ⟨h, hfy⟩ := and3 h
      obtain ⟨h, hly⟩ := and3 h
      obtain ⟨h, hln⟩ := and3 h
      obtain ⟨h, hij⟩ := and3 h
      obtain ⟨h, hj⟩ := and3 h
      obtain ⟨h, hi⟩ := and3 h
      obtain ⟨h, hnn⟩ := and3 h
      obtain ⟨h0, hrr⟩ := and3 h
      cases of_decide_eq_true h0
      cases of_decide_eq_true hrr
      cases of_decide_eq_true hnn
      obtain ⟨R, hm, hR⟩ := Z.mf.xr hxi
      have fy : X.fn y = true ∨ X.env.scope.names.lookup y = some .local := by
        rcases Bool.or_eq_true_iff.mp hfy with q | q
        · exact .inl (Z.fn _ q)
        · exact .inr (by rw [Z.sc]; exact of_decide_eq_true q)
      exact ds_try Z.C hst.1 hst.2 (by rw [Z.N]; exact of_decide_eq_true hi) (by rw [Z.N]; exact of_decide_eq_true hj) (of_decide_eq_true hij) (show X.env.scope.names.lookup _ = _ by rw [Z.sc]; exact of_decide_eq_true hln) (Z.loc hly) fy (plB_ok hpn).1 (plB_ok hpn).2
        (Z.gl hgr) (plB_ok hpr).1 hm hR fun W pn xe tk _ => pss_one (chkT_ok (Z.tr tk) ht)
    · cases h
  | .tryc m e i j r, E, s, h => by
    unfold chkS at h
    split at h
    · rename_i b r' n y n' q
      obtain ⟨p1, p2, p3, p4, p5, p6, rfl⟩ := vTry_eq q
      obtain ⟨h, ht⟩ := and3 h
      obtain ⟨h, hpr⟩ := and3 h
      obtain ⟨h, hgr⟩ := and3 h
      obtain ⟨h, hpn⟩ := and3 h
      obtain ⟨h, hfy⟩ := and3 h
      obtain ⟨h, hly⟩ := and3 h
      obtain ⟨h, hln⟩ := and3 h
      obtain ⟨h, hij⟩ := and3 h
      obtain ⟨h, hj⟩ := and3 h
      obtain ⟨h, hi⟩ := and3 h
      obtain ⟨h, hnn⟩ := and3 h
      obtain ⟨h0, hrr⟩ := and3 h
      cases of_decide_eq_true hrr
      cases of_decide_eq_true hnn
      obtain ⟨fn, efn⟩ := Option.isSome_iff_exists.mp h0
      obtain ⟨R, F⟩ := Z.mf.xn _ _ efn
      have fy : X.fn y = true ∨ X.env.scope.names.lookup y = some .local := by
        rcases Bool.or_eq_true_iff.mp hfy with q | q
        · exact .inl (Z.fn _ q)
        · exact .inr (by rw [Z.sc]; exact of_decide_eq_true q)
      exact ds_tryC Z.C hst.1 hst.2 (by rw [Z.N]; exact of_decide_eq_true hi) (by rw [Z.N]; exact of_decide_eq_true hj) (of_decide_eq_true hij) (show X.env.scope.names.lookup _ = _ by rw [Z.sc]; exact of_decide_eq_true hln) (Z.loc hly) fy (plB_ok hpn).1 (plB_ok hpn).2
        (Z.gl hgr) (plB_ok hpr).1 F.mg (fun f C G => by
          have e := F.mg.symm.trans G.mg
          cases e
          exact Z.mf.xo _ _ _ efn F) fun W pn xe tk _ => pss_one (chkT_ok (Z.tr tk) ht)
    · cases h
theorem chkSs_ok : ∀ (cs : CSs) {E : En} {s : List Stmt}, chkSs cs c s = true → PSs X s (tS g W E (sss cf cs))
  | .nil, E, [], h => dss_nil
  | .nil, E, _ :: _, h => by cases h
  | .cons a as, E, [], h => by cases h
  | .cons a as, E, s :: ss, h => by
    obtain ⟨h1, h2⟩ := and3 (show (chkS a c s && chkSs as c ss) = true from h)
    exact dss_cons (chkS_ok a h1) (chkSs_ok as h2)
end
end
end Wr
namespace Wr
open PySem PySem.Spec L2
open PyProof.Rows hiding St
section
variable {g : Gm} {P : Program} {w : World} {base : Heap} {k : Nat} {f : Addr} {name qual : Str} {params : Arguments} {body : List Stmt} {scope : Scope} {dV kV doc pm cdv ct oc : Value} {an od : Option Addr} {osl : Array (Option Value)} {N ps : List Str}
/-- the frame's context at a def's entry -/
abbrev cxG (g : Gm) (P : Program) (w : World) (base : Heap) (N : List Str) (qual : Str) (scope : Scope) (f : Addr) (cdv : Value) (A : Around) (outer : List Env) (s : Shared) (H : Hp) (E : XK) : Cx := cxOf (L2.CX P w) P w g.K g.mg base N qual scope f cdv A outer s H E
theorem run_one {A : Around} {outer : List Env} {s : Shared} {H : Hp} {args : Args} {us : List Value} {vs : List V} {Q : VK} {E : XK} (lk : g.K.lookup f = some ⟨oc, od, .func (PySem.W.fnOf name qual params body scope dV kV doc pm an cdv ct), osl⟩) (cdI : PySem.W.codeIn g.K cdv qual = true) (Sc : FnScope N ps scope) (len : vs.length = ps.length)
    (room : Room (k + 1) A) (en : Env0 P w g.K g.mg base A outer s H) (bnd : BindsTo s (PySem.W.fnOf name qual params body scope dV kV doc pm an cdv ct) args (ps.zip us)) (rel : Vals vs us)
    (bd : ∃ t, PSs (cxG g P w base N qual scope f cdv A outer s H E) body t ∧ t { nx := fun _ H' => Q .non H', rt := Q } (start N vs) H) :
    codeAny (model P w) A (.call (.ref f) args) (L2.CR (L2.CX P w) outer P w H s Q E) s := by
  have inK : g.K.In s.heap := en.mod.kin.keeps fun b o e => (en.bs b o e).1
  have noL : s.heap.NoLimit := en.mod.nolimit.keeps fun b o e => (en.bs b o e).1
  refine codeAny_call_function room.depth (inK _ _ lk) rfl Sc.co Sc.gen rfl (PySem.W.codeRec_of inK cdI) (bnd _ _ _ _ ?_)
  refine wpAny_newFunctionEnv_cells Sc.kind (fun ⟨n, v⟩ hy => ?_) fun env eenv s1 ic => ?_
  · rcases Sc.par n (List.of_mem_zip hy).1 with q | q
    · exact .inl q
    · exact .inr ⟨q, PySem.W.cellsFrom_some _ _ _ (.inl q)⟩
  · subst eenv
    refine ⟨noL.keeps ic.toInCall.keep, codeAny_func ?_⟩
    obtain ⟨t, bt, qt⟩ := bd
    have I0 : Inv (cxG g P w base N qual scope f cdv A outer s H E) [] (start N vs) H s1 := inv_start Sc room.hd en len rel ic
    refine wpAny_mono (bt.run [] s1 (start N vs) H _ I0 qt) (fun fl s' out => ?_) fun e s' out => out
    cases fl with
    | ret u =>
      obtain ⟨v, σ', H', J, rv, q⟩ := out
      exact ⟨v, H', J.os, J.bare, J.base, J.hok, rv, q⟩
    | next =>
      obtain ⟨σ', H', J, q⟩ := out
      exact ⟨.non, H', J.os, J.bare, J.base, J.hok, rfl, q⟩
    | brk => obtain ⟨_, _, _, q⟩ := out; exact q.elim
    | cont => obtain ⟨_, _, _, q⟩ := out; exact q.elim
theorem fnG_of {sp : Sp} (lk : g.K.lookup f = some ⟨oc, od, .func (PySem.W.fnOf name qual params body scope dV kV doc pm an cdv ct), osl⟩) (cdI : PySem.W.codeIn g.K cdv qual = true) (Sc : FnScope N ps scope) (spl : ∀ vs H Q E, sp vs H Q E → vs.length = ps.length)
    (bd : ∀ (A : Around) (outer : List Env) (s : Shared) (H : Hp) (vs : List V) (Q : VK) (E : XK), Room k (A.deeper (envOfC qual scope s.heap.objs.size f cdv)) → A.guards = some [] → sp vs H Q E →
      ∃ t, PSs (cxG g P w base N qual scope f cdv A outer s H E) body t ∧ t { nx := fun _ H' => Q .non H', rt := Q } (start N vs) H) :
    FnG g P w base (k + 1) f (PySem.W.fnOf name qual params body scope dV kV doc pm an cdv ct) ps sp :=
  ⟨spl, fun A outer s H args us vs Q E room gds en bnd rel pr => run_one lk cdI Sc (spl _ _ _ _ pr) room en bnd rel (bd A outer s H vs Q E (room.deeper _) gds pr)⟩
/-- the lent slots of a def's arguments -/
def ioAt (i : Nat) : Option Sl → Option V → Option (Nat × Addr)
  | some (.io _), some (.ref a) => some (i, a)
  | _, _ => none
def iosOf (args : Rho) (vs : List V) : List (Nat × Addr) := (List.range args.length).filterMap fun i => ioAt i args[i]? vs[i]?
theorem iosOf_mem {args : Rho} {vs : List V} {p : Nat × Addr} (h : p ∈ iosOf args vs) : (∃ d, args[p.1]? = some (.io d)) ∧ vs[p.1]? = some (.ref p.2) := by
  obtain ⟨i, hi, e⟩ := List.mem_filterMap.mp h
  unfold ioAt at e
  split at e
  · rename_i d a e1 e2
    cases e
    exact ⟨⟨d, e1⟩, e2⟩
  · cases e
theorem iosOf_of {args : Rho} {vs : List V} {i : Nat} {a : Addr} {d : D} (h1 : args[i]? = some (.io d)) (h2 : vs[i]? = some (.ref a)) : (i, a) ∈ iosOf args vs := by
  refine List.mem_filterMap.mpr ⟨i, List.mem_range.mpr (List.getElem?_eq_some_iff.mp h1).1, ?_⟩
  rw [h1, h2]
  rfl
theorem StR.pad {H : Hp} {O : AP1} {vs : List V} {args : Rho} {n m : Nat} (S : StR g H O (vs.map some) args) (e : n = m) : StR g H O (vs.map some ++ List.replicate n none) (args ++ List.replicate m .no) := by
  have hl : vs.length = args.length := by have := S.len; rwa [List.length_map] at this
  have low : ∀ {i : Nat} {s : Sl}, (args ++ List.replicate m .no)[i]? = some s → s.own = true → i < args.length ∧ args[i]? = some s := fun {i s} e o => by
    by_cases hi : i < args.length
    · rw [List.getElem?_append_left hi] at e
      exact ⟨hi, e⟩
    · rw [List.getElem?_append_right (Nat.le_of_not_lt hi), List.getElem?_replicate] at e
      split at e
      · cases e; cases o
      · cases e
  have lowV : ∀ {i : Nat}, i < args.length → (vs.map some ++ List.replicate n none)[i]? = (vs.map some)[i]? := fun {i} hi => List.getElem?_append_left (by rw [List.length_map, hl]; exact hi)
  refine ⟨by rw [List.length_append, List.length_append, List.length_map, List.length_replicate, List.length_replicate, hl, e], fun i v s e1 e2 => ?_, fun i j s t a e1 o1 e2 o2 f1 f2 => ?_, S.obj, S.tabs⟩
  · by_cases hi : i < args.length
    · rw [lowV hi] at e1
      rw [List.getElem?_append_left hi] at e2
      exact S.at_ i v s e1 e2
    · rw [List.getElem?_append_right (Nat.le_of_not_lt hi), List.getElem?_replicate] at e2
      split at e2
      · cases e2; exact .no
      · cases e2
  · obtain ⟨h1, g1⟩ := low e1 o1
    obtain ⟨h2, g2⟩ := low e2 o2
    rw [lowV h1] at f1
    rw [lowV h2] at f2
    exact S.one i j s t a g1 o1 g2 o2 f1 f2
/-- the slots that the arguments own, with the rest behind -/
theorem Wn.pad {vs : List V} {args : Rho} {n m : Nat} {b : Addr} (hl : vs.length = args.length) (h : Wn (vs.map some ++ List.replicate n none) (args ++ List.replicate m .no) b) : Wn (vs.map some) args b := by
  obtain ⟨i, s, e1, o, e2⟩ := h
  by_cases hi : i < args.length
  · rw [List.getElem?_append_left hi] at e1
    rw [List.getElem?_append_left (by rw [List.length_map, hl]; exact hi)] at e2
    exact ⟨i, s, e1, o, e2⟩
  · rw [List.getElem?_append_right (Nat.le_of_not_lt hi), List.getElem?_replicate] at e1
    split at e1
    · cases e1; cases o
    · cases e1
theorem body_ok {cf : Fn} {c : CDef} {κ : KC} {A : Around} {outer : List Env} {s : Shared} {H : Hp} {O : AP1} {vs : List V} {args : Rho} {Q : VK} {E : XK} (hnp : c.np = ps.length) (hns : c.ns = N.length)
    (Z : CtxK g cf (fun cls d _ H => E cls d H) (cxG g P w base N qual scope f cdv A outer s H E) κ) (hc : chkSs c.body κ body = true) (S : StR g H O (vs.map some) args) (al : args.all lentS = true) (q : CRo g vs args H O Q E (runD cf c args)) :
    ∃ t, PSs (cxG g P w base N qual scope f cdv A outer s H E) body t ∧ t { nx := fun _ H' => Q .non H', rt := Q } (start N vs) H := by
  have hn : args.length = c.np := by
    by_cases h : args.length = c.np
    · exact h
    · unfold runD at q
      rw [if_neg h] at q
      exact q.elim
  have hl : vs.length = args.length := by have := S.len; rwa [List.length_map] at this
  have hp : PassesOwn (model P w) (A.deeper (envOfC qual scope s.heap.objs.size f cdv)) (envOfC qual scope s.heap.objs.size f cdv) (cxG g P w base N qual scope f cdv A outer s H E).xe := passes_of (X := cxG g P w base N qual scope f cdv A outer s H E) rfl
  let E0 : En := ⟨H, O, Wn (vs.map some) args, iosOf args vs⟩
  refine ⟨tS g (fun cls d _ H => E cls d H) E0 (sss cf c.body), chkSs_ok Z ⟨rfl, rfl⟩ hp c.body hc, O, args ++ List.replicate (c.ns - c.np) .no, ?_, ?_⟩
  · refine ⟨S.pad (by rw [hns, hl, hn]), .refl _ _ _, fun b z => .inl (Wn.pad hl z), S.obj, fun p hp => ?_⟩
    obtain ⟨⟨d, e1⟩, e2⟩ := iosOf_mem hp
    have hi := (List.getElem?_eq_some_iff.mp e1).1
    refine ⟨?_, d, by rw [List.getElem?_append_left hi]; exact e1⟩
    show (vs.map some ++ _)[p.1]? = _
    rw [List.getElem?_append_left (by rw [List.length_map, hl]; exact hi), List.getElem?_map, e2]
    rfl
  · unfold runD at q
    rw [if_pos hn] at q
    -- what is told at the end
    have back : ∀ {σ' : St} {H' : Hp} {O' : AP1} {ρ : Rho}, SI g E0 H' O' σ' ρ → CBk g vs args (ρ.take c.np) H O H' O' := fun {σ' H' O' ρ} S' => by
      refine ⟨S'.fr, S'.st.obj, fun j d e => ?_⟩
      have hj := (List.getElem?_eq_some_iff.mp e).1
      obtain ⟨v, ev, r⟩ := S.get e
      cases r with
      | io oa ob =>
        rename_i a
        have ea : vs[j]? = some (.ref a) := by
          rw [List.getElem?_map] at ev
          cases q : vs[j]? with
          | none => rw [q] at ev; cases ev
          | some u => rw [q] at ev; cases ev; rfl
        obtain ⟨f1, d', f2⟩ := S'.io (j, a) (iosOf_of e ea)
        have z := S'.st.at_ j _ _ f1 f2
        cases z with
        | io oa' ob' => exact ⟨a, d', ea, by rw [List.getElem?_take_of_lt (by omega)]; exact f2, oa', ob'⟩
    cases r : sss cf c.body (args ++ List.replicate (c.ns - c.np) .no) with
    | ok o ρ =>
      rw [r] at q
      cases o with
      | nx => exact fun σ' H' O' S' => q .non H' O' (back S') .non
      | bk => exact q.elim
      | ct => exact q.elim
      | rt d =>
        refine fun v σ' H' O' S' rf => q v H' O' (back S') ?_
        cases d with
        | sh d => exact rf
        | fr d =>
          obtain ⟨a, e, oa, nw, ob, z⟩ := rf
          refine ⟨a, e, z.elim id fun z => ?_, oa, ob⟩
          obtain ⟨j, t, e1, o, e2⟩ := z
          exfalso
          have lt := List.all_eq_true.mp al t (List.mem_of_getElem? e1)
          cases t with
          | no => cases o
          | sh _ => cases o
          | ow _ => cases lt
          | io d1 =>
            have ea : vs[j]? = some (.ref a) := by
              rw [List.getElem?_map] at e2
              cases q : vs[j]? with
              | none => rw [q] at e2; cases e2
              | some u => rw [q] at e2; cases e2; rfl
            obtain ⟨f1, d', f2⟩ := S'.io (j, a) (iosOf_of e1 ea)
            exact nw ⟨j, _, f2, rfl, f1⟩
    | ex x ρ =>
      rw [r] at q
      exact fun c dx σ' H' O' S' xr => q c dx H' O' (back S') xr
    | st =>
      rw [r] at q
      exact q.elim
theorem def_ok {cf : Fn} {c : CDef} {m : MI} {lam : Bool} (hw : w.params = g.prm) (h2 : 2 + slk lam ≤ k + slk lam) (lk : g.K.lookup f = some ⟨oc, od, .func (PySem.W.fnOf name qual params body scope dV kV doc pm an cdv ct), osl⟩) (cdI : PySem.W.codeIn g.K cdv qual = true) (Sc : FnScope N ps scope) (hnp : c.np = ps.length) (hns : c.ns = N.length)
    (hc : chkSs c.body ⟨m, N, scope, fun _ => true, lam, false⟩ body = true)
    (hd : ∀ x, m.dn x = true → ∃ f fd ps, FnG g P w base k f fd ps (spF g (cf x)) ∧ g.mg x = some (.ref f) ∧ PySem.W.keepIn g.K (.ref f) = true ∧ (m.po x = true → Binds g.K fd ps []) ∧ ∀ q ∈ m.kw x, KBn fd ps q.1 q.2.1 q.2.2)
    (hb : MF g m) (ht : lam = true → ∀ (A : Around) (outer : List Env) (s : Shared) (H : Hp) (E : XK), A.guards = some [] → Room (k + slk lam) (A.deeper (envOfC qual scope s.heap.objs.size f cdv)) → ∀ t, m.tn t = true → TellK g cf (cxG g P w base N qual scope f cdv A outer s H E) t) :
    FnG g P w base (k + slk lam + 1) f (PySem.W.fnOf name qual params body scope dV kV doc pm an cdv ct) ps (spF g (runD cf c)) := by
  have npl : ∀ {vs : List V} {H : Hp} {O : AP1} {args : Rho} {Q : VK} {E : XK}, StR g H O (vs.map some) args → CRo g vs args H O Q E (runD cf c args) → args.length = c.np := fun {vs H O args Q E} S q => by
    by_cases h : args.length = c.np
    · exact h
    · unfold runD at q
      rw [if_neg h] at q
      exact q.elim
  refine fnG_of lk cdI Sc (fun vs H Q E ⟨O, args, S, _, q⟩ => ?_) fun A outer s H vs Q E room gds ⟨O, args, S, al, q⟩ => ?_
  · have := S.len
    rw [List.length_map] at this
    rw [this, npl S q, hnp]
  · have Z : CtxK g cf (fun cls d _ H => E cls d H) (cxG g P w base N qual scope f cdv A outer s H E) ⟨m, N, scope, fun _ => true, lam, false⟩ := {
      C := ⟨rfl, rfl, hw, rfl, Sc.nd, gds, by have := room.un; show (A.deeper _).units + 64 < cLine; omega⟩
      N := rfl
      sc := rfl
      tk := takes_of rfl rfl rfl rfl
      fn := fun _ _ => rfl
      df := fun x hx => by
        obtain ⟨f', fd', ps', F, hm, hk, hbd⟩ := hd x hx
        exact ⟨k, f', fd', ps', F, room, hm, hk, hbd⟩
      mf := hb
      rm := room.mono h2
      tl := fun h t hx => ht h A outer s H E gds room t hx
      ho := fun h => (nomatch h) }
    exact body_ok hnp hns Z hc S al q
end
end Wr
namespace Wr
open PySem PySem.Spec L2 LamX
open PyProof.Rows hiding St
section
variable {X : Cx} {pins : List (Addr × Obj)} {σ : St} {H : Hp} {s : Shared}
/-- what a lambda's making does to the abstract heap -/
def Grown (H : Hp) (P c' : Addr) (q : Str) (H1 : Hp) : Prop := H1 = H ∨ ∃ ps more, H P = some (.tbl ps) ∧ H c' = none ∧ H1 = upd (upd H P (.tbl (ps ++ more))) c' (CodeO c' q)
theorem Grown.fr {g : Gm} {P c' : Addr} {H1 : Hp} {O : AP1} (h : Grown H P c' lamQ H1) (t : TabS H1 P lamQ) : Fr (fun _ => False) H O H1 O := by
  rcases h with rfl | ⟨ps, more, hP, hc, rfl⟩
  · exact .refl _ _ _
  · have at_ : ∀ {b : Addr}, b ≠ P → b ≠ c' → upd (upd H P (.tbl (ps ++ more))) c' (CodeO c' lamQ) b = H b := fun h1 h2 => by rw [upd_ne h2, upd_ne h1]
    refine ⟨fun b o e nt _ => ?_, fun P' _ t' => ?_, fun b e => ?_, fun _ z _ => z, fun _ z => .inl z⟩
    · rw [at_ (fun z => nt ps (by rw [z, hP] at e; exact (Option.some.inj e).symm)) (ne_of_none e hc)]
      exact e
    · by_cases z : P' = P
      · rw [z]; exact t
      · obtain ⟨ps', e1, e2, e3⟩ := t'
        refine ⟨ps', by rw [at_ z (ne_of_none e1 hc)]; exact e1, e2, fun pos cv hcv => ?_⟩
        obtain ⟨c0, f1, f2⟩ := e3 pos cv hcv
        refine ⟨c0, f1, ?_⟩
        rw [at_ (fun z => by rw [z, hP] at f2; exact codeO_ne ps (Option.some.inj f2).symm) (ne_of_none f2 hc)]
        exact f2
    · by_cases h2 : b = c'
      · rw [h2, upd_same] at e; cases e
      · by_cases h1 : b = P
        · rw [h1, upd_ne (ne_of_none hP hc), upd_same] at e; cases e
        · rw [at_ h1 h2] at e; exact e
end
theorem exh_code {a C dx c : Addr} {q : Str} (e : exh a C dx = CodeO c q) (h : a = c) : False := by
  subst h
  unfold exh CodeO at e
  injection e with e
  let o : Obj := { cls := .none, data := .fields #[.none, .str q 0] }
  let hh : Heap := { objs := (List.replicate (a + 1) o).toArray }
  have at_ : hh.get? a = some o := by
    unfold Heap.get?
    have z : hh.objs[a]? = some o := by
      show ((List.replicate (a + 1) o).toArray)[a]? = some o
      rw [List.getElem?_toArray, List.getElem?_replicate, if_pos (Nat.lt_succ_self a)]
    rw [z]
  have z := congrFun e hh
  have y : ∃ (oc : Obj) (vs : Array Value) (t : Tok), hh.get? a = some oc ∧ oc.data = .fields vs ∧ vs[1]? = some (.str q t) := ⟨o, _, 0, at_, rfl, rfl⟩
  rw [← z] at y
  obtain ⟨oe, vs, e1, e2, _⟩ := y
  rw [at_] at e1
  cases e1
  cases e2
section
variable {g : Gm} {H : Hp} {O : AP1} {c : Addr} {q : Str} (hc : H c = some (CodeO c q))
include hc
theorem LsO.up {K : PySem.W.Frag} {a : Addr} {xs : List V} (h : LsO K H O a xs) : LsO K H (fun b => O b ∨ b = c) a xs := h.imp (fun ⟨r, n⟩ => ⟨r, fun z => z.elim n fun e => by
  rw [e] at r
  rcases r with r | ⟨o, r⟩ <;> (rw [hc] at r; cases r)⟩) id
theorem TpO.up {K : PySem.W.Frag} {a : Addr} {xs : List V} (h : TpO K H O a xs) : TpO K H (fun b => O b ∨ b = c) a xs := h.imp (fun ⟨r, n⟩ => ⟨r, fun z => z.elim n fun e => by rw [e, hc] at r; cases r⟩) id
mutual
theorem RD.up (hn : g.clo = none) : ∀ {v : V} {d : D}, RD g H O v d → RD g H (fun b => O b ∨ b = c) v d
  | _, _, .non => .non
  | _, _, .bl b => .bl b
  | _, _, .int i => .int i
  | _, _, .str x => .str x
  | _, _, .tup h hs => .tup (TpO.up hc h) (RDs.up hn hs)
  | _, _, .lst h hs => .lst (LsO.up hc h) (RDs.up hn hs)
  | _, _, .dct e n hs => .dct e (fun z => z.elim n fun y => by rw [y, hc] at e; cases e) (RDk.up hn hs)
  | _, _, .fnc h => .fnc h
  | _, _, .kdc h => .kdc h
  | _, _, .dtc e n hs => .dtc e (fun z => z.elim n fun y => by rw [y, hc] at e; cases e) (RDt.up hn hs)
  | _, _, .xc m e n e2 n2 h => .xc m e (fun z => z.elim n fun y => by rw [y, hc] at e; exact exh_code (Option.some.inj e).symm rfl) e2 (fun z => z.elim n2 fun y => by rw [y, hc] at e2; cases e2) (RD.up hn h)
  | _, _, .clo m _ => by rw [hn] at m; cases m
theorem RDs.up (hn : g.clo = none) : ∀ {vs : List V} {ds : List D}, RDs g H O vs ds → RDs g H (fun b => O b ∨ b = c) vs ds
  | _, _, .nil => .nil
  | _, _, .cons h hs => .cons (RD.up hn h) (RDs.up hn hs)
theorem RDk.up (hn : g.clo = none) : ∀ {vs : List (Key × V)} {ds : List (Key × D)}, RDk g H O vs ds → RDk g H (fun b => O b ∨ b = c) vs ds
  | _, _, .nil => .nil
  | _, _, .cons h hs => .cons (RD.up hn h) (RDk.up hn hs)
theorem RDt.up (hn : g.clo = none) : ∀ {vs : List (List Key × V)} {ds : List (List Key × D)}, RDt g H O vs ds → RDt g H (fun b => O b ∨ b = c) vs ds
  | _, _, .nil => .nil
  | _, _, .cons h hs => .cons (RD.up hn h) (RDt.up hn hs)
end
theorem Ob.up (hn : g.clo = none) {a : Addr} {d : D} (h : Ob g H O a d) : Ob g H (fun b => O b ∨ b = c) a d := by
  cases h with
  | lst e hs => exact .lst e (RDs.up hc hn hs)
  | dct e hs => exact .dct e (RDk.up hc hn hs)
  | dtc e hs => exact .dtc e (RDt.up hc hn hs)
theorem StR.up {σ : St} {ρ : Rho} (hn : g.clo = none) (S : StR g H O σ ρ) : StR g H (fun b => O b ∨ b = c) σ ρ := by
  refine ⟨S.len, fun i v s e1 e2 => ?_, S.one, fun b z => z.elim (S.obj b) fun e => by rw [e, hc]; exact (fun z => nomatch z), fun P hP => ⟨(S.tabs P hP).1, fun z => z.elim (S.tabs P hP).2 fun e => ?_⟩⟩
  · have h := S.at_ i v s e1 e2
    cases h with
    | no => exact .no
    | sh r => exact .sh (RD.up hc hn r)
    | ow o b => exact .ow (.inl o) (Ob.up hc hn b)
    | io o b => exact .io (.inl o) (Ob.up hc hn b)
  · obtain ⟨ps, e1, _⟩ := (S.tabs P hP).1
    rw [e, hc] at e1
    exact codeO_ne ps (Option.some.inj e1)
end
/-- the shared slots, as they stay -/
structure ShR (g : Gm) (H : Hp) (O : AP1) (σ : St) (ρ : Rho) : Prop where
  len : σ.length = ρ.length
  at_ : ∀ (i : Nat) (v : Option V) (d : D), σ[i]? = some v → ρ[i]? = some (.sh d) → ∃ u, v = some u ∧ RD g H O u d
  tabs : TbO g H O
section
variable {g : Gm} {H H1 : Hp} {O O1 W : AP1} {σ : St} {ρ : Rho}
theorem ShR.fr (S : ShR g H O σ ρ) (f : Fr W H O H1 O1) (hW : ∀ b, W b → O b) : ShR g H1 O1 σ ρ := ⟨S.len, fun i v d e1 e2 => by
  obtain ⟨u, e, r⟩ := S.at_ i v d e1 e2
  exact ⟨u, e, r.fr f hW⟩, S.tabs.fr f hW⟩
theorem ShR.anti (S : ShR g H O σ ρ) (s : ∀ b, O1 b → O b) : ShR g H O1 σ ρ := ⟨S.len, fun i v d e1 e2 => by
  obtain ⟨u, e, r⟩ := S.at_ i v d e1 e2
  exact ⟨u, e, r.anti s⟩, S.tabs.anti s⟩
theorem ShR.st (S : ShR g H O σ ρ) (ob : ∀ b, O b → H b ≠ none) : StR g H O σ (shOnly ρ) := by
  have own : ∀ {i : Nat} {s : Sl}, (Wr.shOnly ρ)[i]? = some s → s.own = true → False := fun {i s} e o => by
    unfold Wr.shOnly at e
    rw [List.getElem?_map] at e
    cases q : ρ[i]? with
    | none => rw [q] at e; cases e
    | some t =>
      rw [q] at e
      cases t <;> cases e <;> cases o
  refine ⟨by unfold Wr.shOnly; rw [List.length_map]; exact S.len, fun i v s e1 e2 => ?_, fun i j s t a e1 o1 _ _ _ _ => (own e1 o1).elim, ob, S.tabs⟩
  unfold Wr.shOnly at e2
  rw [List.getElem?_map] at e2
  cases q : ρ[i]? with
  | none => rw [q] at e2; cases e2
  | some t =>
    rw [q] at e2
    cases t with
    | no => cases e2; exact .no
    | sh d =>
      cases e2
      obtain ⟨u, e, r⟩ := S.at_ i v d e1 q
      subst e
      exact .sh r
    | ow d => cases e2; exact .no
    | io d => cases e2; exact .no
end
end Wr
namespace Wr
open PySem PySem.Spec L2
open PyProof.Rows hiding St
section
variable {P : Program} {w : World} {K : PySem.W.Frag} {mg mb : Str → Option Value} {k : Nat} {fa a : Addr} {fd : FuncData} {x : Str} {cf : List Sl → CR} {s₁ : Shared} {vs : List Value} {ns : List Int} {back : Rho} {xs : List Str}
theorem sp_script {pr : Params} {H : Hp} (hS : LsO K H (fun _ => False) a (ns.map V.int)) (hcf : cf [.sh (.lst (ns.map D.int))] = .ok (.sh (.bl true)) back) :
    spF ⟨K, mg, pr, [], none, xs⟩ cf [.ref a] H (fun v _ => v = .bl true) fun _ _ _ => False := by
  refine ⟨fun _ => False, [.sh (.lst (ns.map D.int))], ⟨rfl, fun i v s e1 e2 => ?_, fun i j s t b e1 o1 e2 o2 f1 f2 => ?_, fun _ z => z.elim, fun _ h => nomatch h⟩, rfl, ?_⟩
  · cases i with
    | zero =>
      cases e1
      cases e2
      exact .sh (.lst hS (RDs.ints _))
    | succ i => simp at e2
  · cases i with
    | zero => cases e1; cases o1
    | succ i => simp at e1
  · rw [hcf]
    exact fun v H' O' _ r => by cases (show RD _ H' O' v (.bl true) from r); rfl
/-- one heap of the script's -/
theorem law_in {H : Hp} (inK : K.In s₁.heap) (nG : s₁.heap.Ns mainGlobals mg) (nB : s₁.heap.Ns builtinsNs mb) (boot : ∀ x : Str, x ≠ "__name__" → mb x = bootBuiltins x) (noL : s₁.heap.NoLimit) (noG : s₁.gens = #[])
    (at_ : s₁.heap.get? a = some { cls := .type "list", data := .seq vs.toArray }) (room : Room k callerA)
    (F : ∀ base : Heap, K.In base → base.Ns mainGlobals mg → FnG ⟨K, mg, w.params, [], none, xs⟩ P w base k fa fd [x] (spF ⟨K, mg, w.params, [], none, xs⟩ cf)) (bnd : ∀ (s : Shared) (u : Value), BindsTo s fd ⟨[u], []⟩ [(x, u)])
    (hcf : cf [.sh (.lst (ns.map D.int))] = .ok (.sh (.bl true)) back) (onl : Only H) (scr : LsO K H (fun _ => False) a (ns.map V.int)) (hok : HOk P w H s₁.heap) (oneA : ∀ b, H b ≠ none → b = a) (notK : H a ≠ none → K.lookup a = none) :
    codeAny (model P w) callerA (.call (.ref fa) ⟨[.ref a], []⟩) (fun r s' => r = .ok (.ret (.bool true)) ∧ OldK s₁.heap s'.heap ∧ s'.os = s₁.os ∧ AllBare s'.gens) s₁ := by
  have isA : ∀ {b : Addr} {u : HO}, H b = some u → b = a := fun {b u} q => oneA b (by rw [q]; exact fun z => by cases z)
  have nsB : ∀ {b : Addr} {m : Str → Option Value}, s₁.heap.Ns b m → (hidT s₁.heap H).Ns b m := fun {b m} ⟨o, es, ep, e, d, r⟩ => by
    refine ⟨o, es, ep, hidT_get e ?_, d, r⟩
    cases q : H b with
    | none => rfl
    | some u =>
      cases isA q
      rw [at_] at e
      cases e
      exact absurd d fun z => by cases z
  have inB : K.In (hidT s₁.heap H) := fun b o e => by
    refine hidT_get (inK b o e) ?_
    cases q : H b with
    | none => rfl
    | some u =>
      cases isA q
      rw [notK (by rw [q]; exact fun z => by cases z)] at e
      cases e
  obtain ⟨ml, l1, l2⟩ := noL
  have en : Env0 P w K mg (hidT s₁.heap H) callerA [] s₁ H :=
    ⟨rfl, ⟨inB, nsB nG, ⟨mb, nsB nB, boot⟩, ⟨ml, nsB l1, l2⟩⟩, fun b o e => of_hidT e, Nat.le_of_eq (hidT_size _ _), trivial, fun b hb => absurd hb (List.not_mem_nil), hok, .of_eq noG⟩
  refine codeAny_mono ((F _ inB (nsB nG)).run callerA [] s₁ H ⟨[.ref a], []⟩ [.ref a] [.ref a] _ _ room rfl en (bnd s₁ (.ref a)) (.cons rfl .nil) (sp_script scr hcf)) fun r s' out => ?_
  cases r with
  | error e =>
    obtain ⟨_, _, _, _, _, _, _, _, _, _, _, _, z⟩ := out
    exact z.elim
  | ok fl =>
    cases fl with
    | ret u =>
      obtain ⟨v, H', os, bare, un, hok', rv, q⟩ := out
      cases (show v = .bl true from q)
      cases (show u = Value.bool true from rv)
      refine ⟨rfl, OldK.of_keep fun b o e => ?_, os, bare⟩
      rcases onl b with z | ⟨ob, xs, z⟩
      · exact un.keep b o e z (List.not_mem_nil) (List.not_mem_nil)
      · have f1 := (hok b _ z).1
        have f2 := (hok' b _ (un.frzs b ob _ z)).1
        rw [e] at f1
        cases f1
        exact f2
    | next => exact out.elim
    | brk => exact out.elim
    | cont => exact out.elim
theorem lawG (inK : K.In s₁.heap) (nG : s₁.heap.Ns mainGlobals mg) (nB : s₁.heap.Ns builtinsNs mb) (boot : ∀ x : Str, x ≠ "__name__" → mb x = bootBuiltins x) (noL : s₁.heap.NoLimit) (noG : s₁.gens = #[])
    (at_ : s₁.heap.get? a = some { cls := .type "list", data := .seq vs.toArray }) (isI : IntsAre vs ns) (le : ns.length ≤ sizeLine) (room : Room k callerA)
    (F : ∀ base : Heap, K.In base → base.Ns mainGlobals mg → FnG ⟨K, mg, w.params, [], none, xs⟩ P w base k fa fd [x] (spF ⟨K, mg, w.params, [], none, xs⟩ cf)) (bnd : ∀ (s : Shared) (u : Value), BindsTo s fd ⟨[u], []⟩ [(x, u)])
    (hcf : cf [.sh (.lst (ns.map D.int))] = .ok (.sh (.bl true)) back) :
    codeAny (model P w) callerA (.call (.ref fa) ⟨[.ref a], []⟩) (fun r s' => r = .ok (.ret (.bool true)) ∧ OldK s₁.heap s'.heap ∧ s'.os = s₁.os ∧ AllBare s'.gens) s₁ := by
  have rel := vals_ints isI
  have lenV : vs.length = ns.length := isI.length
  cases hk : K.lookup a with
  | some o =>
    have e := inK a o hk
    rw [at_] at e
    cases e
    exact law_in (H := fun _ => none) inK nG nB boot noL noG at_ room F bnd hcf (fun _ => .inl rfl) (.inr ⟨vs, _, hk, by rw [lenV]; exact le, rel⟩) (fun b u z => by cases z) (fun b z => absurd rfl z) fun z => absurd rfl z
  | none =>
    have self : (if a = a then some (HO.frz { cls := .type "list", data := .seq vs.toArray } (.lst (ns.map V.int))) else none) = some _ := if_pos rfl
    refine law_in (H := fun b => if b = a then some (.frz { cls := .type "list", data := .seq vs.toArray } (.lst (ns.map V.int))) else none) inK nG nB boot noL noG at_ room F bnd hcf (fun b => ?_) (.inl ⟨.inr ⟨_, self⟩, fun z => z.elim⟩) (fun b u z => ?_) (fun b z => ?_) fun _ => hk
    · by_cases hb : b = a
      · subst hb; exact .inr ⟨_, _, self⟩
      · exact .inl (if_neg hb)
    · by_cases hb : b = a
      · subst hb
        cases self.symm.trans z
        exact ⟨at_, by rw [List.length_map]; exact le, vs, _, rel, at_⟩
      · cases (if_neg hb).symm.trans z
    · by_cases hb : b = a
      · exact hb
      · exact absurd (if_neg hb) z
end
/-- what is left behind the top's walk -/
theorem walkG {l : PySem.W.OpenLaw} {n k : Nat} {q : Program} {loose : List Str} {XP : (Str → Option Value) → Heap → Prop} {YP : World → Heap → Prop} {d : DefRec} {K : Params → PySem.W.Frag} {cf : List Sl → CR} {x : Str} {xs : List Str}
    (most : l.most = some n) (le : n ≤ sizeLine) (nodf : d.params.defaults = []) (room : Room k callerA) (inK : ∀ (w : World) (h : Heap), YP w h → (K w.params).In h)
    (F : ∀ (w : World) (mg : Str → Option Value) (fa : Addr) (h : Heap), (K w.params).In h → h.Ns mainGlobals mg → mg d.name = some (.ref fa) →
      ∃ fd : FuncData, (∀ (s : Shared) (u : Value), BindsTo s fd ⟨[u], []⟩ [(x, u)]) ∧ ∀ base : Heap, (K w.params).In base → base.Ns mainGlobals mg → FnG ⟨K w.params, mg, w.params, [], none, xs⟩ l.prog w base k fa fd [x] (spF ⟨K w.params, mg, w.params, [], none, xs⟩ cf))
    (hcf : ∀ ns : List Int, ns.length ≤ n → ∃ back, cf [.sh (.lst (ns.map D.int))] = .ok (.sh (.bl true)) back) :
    PySem.W.WalkO q loose XP YP l.row.toRowW d [] (fun f vs => PySem.call f vs) := by
  refine Att.attach_call most nodf fun w s₀ s₁ mg mb fa o pm cd doc a vs ns G Y ho hd hcd hmg hobj hints hlen hg => ?_
  obtain ⟨fd, hb, hF⟩ := F w mg fa _ (inK w _ Y) G.T.g hmg
  obtain ⟨back, e⟩ := hcf ns hlen
  exact lawG (inK w _ Y) G.T.g G.T.b G.T.builtins G.T.nolimit hg hobj hints (Nat.le_trans hlen le) room hF hb e
end Wr
namespace Wr
open PySem PySem.Spec L2
open PyProof.Rows hiding St
/-- a def's text and its core -/
structure DefS (m : MI) (lam hol : Bool) (x : Str) (c : CDef) (st : Stmt) (N ps : List Str) : Prop where
  sc : FnScope N ps (defScope st)
  np : c.np = ps.length
  ns : c.ns = N.length
  chk : chkSs c.body ⟨m, N, defScope st, fun _ => true, lam, hol⟩ (defBody st) = true
  bind : m.po x = true → ∀ (kV doc pm : Value) (an : Option Addr) (cdv ct : Value) (us : List Value), us.length = ps.length → bindArgs (PySem.W.fnOf x x (defArgs st) (defBody st) (defScope st) .none kV doc pm an cdv ct) ⟨us, []⟩ = pure (ps.zip us)
  kbind : ∀ q ∈ m.kw x, ∀ (kV doc pm : Value) (an : Option Addr) (cdv ct : Value), KBn (PySem.W.fnOf x x (defArgs st) (defBody st) (defScope st) .none kV doc pm an cdv ct) ps q.1 q.2.1 q.2.2
/-- .. as it stands behind the top, by K and the module's names -/
structure DefK (g : Gm) (x : Str) (st : Stmt) (f : Addr) (fd : FuncData) : Prop where
  ex : ∃ (oc : Value) (od : Option Addr) (kV doc pm : Value) (an : Option Addr) (cdv ct : Value) (osl : Array (Option Value)),
    fd = PySem.W.fnOf x x (defArgs st) (defBody st) (defScope st) .none kV doc pm an cdv ct ∧ g.K.lookup f = some ⟨oc, od, .func fd, osl⟩ ∧ PySem.W.codeIn g.K cdv x = true
  kp : PySem.W.keepIn g.K (.ref f) = true
  mg : g.mg x = some (.ref f)
theorem defK_mk {g : Gm} {x : Str} {st : Stmt} {f : Addr} {oc : Value} {od an : Option Addr} {osl : Array (Option Value)} {kV doc pm cdv ct : Value} (l : g.K.lookup f = some ⟨oc, od, .func (PySem.W.fnOf x x (defArgs st) (defBody st) (defScope st) .none kV doc pm an cdv ct), osl⟩)
    (c : PySem.W.codeIn g.K cdv x = true) (k : PySem.W.keepIn g.K (.ref f) = true) (m : g.mg x = some (.ref f)) : ∃ fd, DefK g x st f fd := ⟨_, ⟨_, _, _, _, _, _, _, _, _, rfl, l, c⟩, k, m⟩
structure DefAt (g : Gm) (m : MI) (x : Str) (c : CDef) : Prop where
  ex : ∃ (st : Stmt) (N ps : List Str) (f : Addr) (fd : FuncData), DefS m false false x c st N ps ∧ DefK g x st f fd
section
variable {g : Gm} {P : Program} {w : World} {base : Heap} {Δ : Str → Option CDef} {m : MI}
theorem def_at {cf : Fn} {k : Nat} (h2 : 2 ≤ k) {x : Str} {c : CDef} {st : Stmt} {N ps : List Str} {f : Addr} {fd : FuncData} (S : DefS m false false x c st N ps) (T : DefK g x st f fd)
    (hd : ∀ x, m.dn x = true → ∃ f fd ps, FnG g P w base k f fd ps (spF g (cf x)) ∧ g.mg x = some (.ref f) ∧ PySem.W.keepIn g.K (.ref f) = true ∧ (m.po x = true → Binds g.K fd ps []) ∧ ∀ q ∈ m.kw x, KBn fd ps q.1 q.2.1 q.2.2)
    (hb : MF g m) (hw : w.params = g.prm) : FnG g P w base (k + 1) f fd ps (spF g (runD cf c)) ∧ (m.po x = true → Binds g.K fd ps []) ∧ ∀ q ∈ m.kw x, KBn fd ps q.1 q.2.1 q.2.2 := by
  obtain ⟨oc, od, kV, doc, pm, an, cdv, ct, osl, rfl, lk, cd⟩ := T.ex
  exact ⟨def_ok (lam := false) hw (show 2 + 0 ≤ k + 0 by omega) lk cd S.sc S.np S.ns S.chk hd hb (fun h => nomatch h), fun hp => .all (S.bind hp kV doc pm an cdv ct), fun q hq => S.kbind q hq kV doc pm an cdv ct⟩
theorem fn_zero {f : Addr} {fd : FuncData} {ps : List Str} {x : Str} : FnG g P w base 3 f fd ps (spF g (fnN Δ 0 x)) :=
  ⟨fun _ _ _ _ ⟨_, _, _, _, z⟩ => z.elim, fun _ _ _ _ _ _ _ _ _ _ _ _ _ _ ⟨_, _, _, _, z⟩ => z.elim⟩
theorem all_ok (hw : w.params = g.prm) (hdn : ∀ x, m.dn x = true → ∃ c, Δ x = some c) (hb : MF g m) (hD : ∀ x c, m.dn x = true → Δ x = some c → DefAt g m x c) :
    ∀ (n : Nat) (x : Str), m.dn x = true → ∃ f fd ps, FnG g P w base (n + 3) f fd ps (spF g (fnN Δ n x)) ∧ g.mg x = some (.ref f) ∧ PySem.W.keepIn g.K (.ref f) = true ∧ (m.po x = true → Binds g.K fd ps []) ∧ ∀ q ∈ m.kw x, KBn fd ps q.1 q.2.1 q.2.2
  | n, x, hx => by
    obtain ⟨c, hc⟩ := hdn x hx
    obtain ⟨st, N, ps, f, fd, S, T⟩ := (hD x c hx hc).ex
    cases n with
    | zero =>
      obtain ⟨oc, od, kV, doc, pm, an, cdv, ct, osl, rfl, lk, cd⟩ := id T.ex
      exact ⟨f, _, ps, fn_zero, T.mg, T.kp, fun hp => .all (S.bind hp kV doc pm an cdv ct), fun q hq => S.kbind q hq kV doc pm an cdv ct⟩
    | succ n =>
      obtain ⟨F, B⟩ := def_at (by omega) S T (all_ok hw hdn hb hD n) hb hw
      have e : fnN Δ (n + 1) x = runD (fnN Δ n) c := by
        funext args
        show (match Δ x with | some c => _ | none => _) = _
        rw [hc]
      exact ⟨f, fd, ps, by rw [e]; exact F, T.mg, T.kp, B⟩
/-- the law's own def among them -/
theorem law_ok (hw : w.params = g.prm) (hdn : ∀ x, m.dn x = true → ∃ c, Δ x = some c) (hb : MF g m) (hD : ∀ x c, m.dn x = true → Δ x = some c → DefAt g m x c) {n : Nat} {x : Str} {c : CDef} {st : Stmt} {N ps : List Str} {f : Addr} {fd : FuncData} (hc : Δ x = some c) (S : DefS m false false x c st N ps) (T : DefK g x st f fd) :
    FnG g P w base (n + 1 + 3) f fd ps (spF g (fnN Δ (n + 1) x)) := by
  have e : fnN Δ (n + 1) x = runD (fnN Δ n) c := by
    funext args
    show (match Δ x with | some c => _ | none => _) = _
    rw [hc]
  rw [e]
  exact (def_at (by omega) S T (all_ok hw hdn hb hD n) hb hw).1
/-- how a law's def takes its script -/
theorem bind_one {m : MI} {lam hol : Bool} {st : Stmt} {x y : Str} {f : Addr} {fd : FuncData} {c : CDef} {N : List Str} (S : DefS m lam hol x c st N [y]) (T : DefK g x st f fd) (hp : m.po x = true) (s : Shared) (u : Value) : BindsTo s fd ⟨[u], []⟩ [(y, u)] := by
  obtain ⟨oc, od, kV, doc, pm, an, cdv, ct, osl, rfl, lk, cd⟩ := T.ex
  exact .of_eq (S.bind hp kV doc pm an cdv ct [u] rfl)
end
end Wr
namespace Wr
open PySem PySem.Spec L2
open PyProof.Rows hiding St
/-- the def in a class -/
def clsIni (s : Stmt) : Stmt := match s with
  | .ClassDef _ _ _ (.FunctionDef a b c d e f g h i j :: _) _ _ _ _ _ _ _ => .FunctionDef a b c d e f g h i j
  | s => s
def clsBody (s : Stmt) : List Stmt := defBody (clsIni s)
def clsArgs (s : Stmt) : Arguments := defArgs (clsIni s)
def clsScope (s : Stmt) : Scope := defScope (clsIni s)
theorem xcf_mk {g : Gm} {x f qual : Str} {st : Stmt} {C fI : Addr} {nm q : Str} {N : Addr} {bs bm : List Value} {sn : List Str} {sub : List Value} {ab : Bool} {col : Option Bool} {dd : Option Addr} {k0 k1 k2 k3 k5 : Option Value} {oc : Value} {od an : Option Addr} {osl : Array (Option Value)} {kV doc pm cdv ct : Value}
    (e : ∃ p1 p2 p3 p4, clsBody st = [.Assign [.Attribute (.Name "self" p1) f p2] (.Name f p3) p4]) (S : FnScope ["self", f] ["self", f] (clsScope st)) (hf : (f == ("__debug__" : Str)) = false ∧ (f == ("__classdict__" : Str)) = false)
    (v : ∀ (kV doc pm : Value) (an : Option Addr) (cdv ct : Value) (us : List Value), us.length = 2 → bindArgs (PySem.W.fnOf "__init__" qual (clsArgs st) (clsBody st) (clsScope st) .none kV doc pm an cdv ct) ⟨us, []⟩ = pure ((["self", f] : List Str).zip us))
    (inn : x ∈ g.xs) (mg : g.mg x = some (.ref C)) (l : g.K.lookup C = some (excClassObj nm q C N bs bm true sn sub ab col dd k0 k1 k2 k3 k5 "ValueError.__new__")) (b : PySem.HandSPX.refsVE bm = true)
    (sa : PySem.W.findIn g.K (.ref C) "__setattr__" = some (some (.builtin "object.__setattr__"))) (xe : PySem.W.subIn g.K (.ref C) (.type "BaseException") = some true) (xt : PySem.W.typeIn g.K (.ref C) = some (.type "type")) (xk : PySem.W.keepIn g.K (.ref C) = true)
    (ga : PySem.W.findIn g.K (.ref C) "__getattribute__" = some (some (.builtin "BaseException.__getattribute__"))) (gg : PySem.W.findIn g.K (.ref C) "__getattr__" = some none) (hd : PySem.W.hasDictIn g.K C = true) (no : PySem.W.findIn g.K (.ref C) f = some none)
    (ha : PySem.W.findIn g.K (.ref C) "__class__" = some (some (.builtin "object.__class__"))) (hn : PySem.W.specialIn g.K (.builtin "object.__class__") "__get__" = some (some (.builtin "getset_descriptor.__get__"))) (ht : PySem.W.takesIn g.K (.builtin "object.__class__") = some true)
    (hm : PySem.W.mroIn g.K C (.type "object") = some true) (i1 : PySem.W.findIn g.K (.ref C) "__init__" = some (some (.ref fI))) (i2 : PySem.W.typeIn g.K (.ref fI) = some (.type "function"))
    (i3 : g.K.lookup fI = some ⟨oc, od, .func (PySem.W.fnOf "__init__" qual (clsArgs st) (clsBody st) (clsScope st) .none kV doc pm an cdv ct), osl⟩) (i4 : PySem.W.codeIn g.K cdv qual = true) (i5 : PySem.W.keepIn g.K (.ref fI) = true) : XcF g x f C := by
  obtain ⟨p1, p2, p3, p4, e⟩ := e
  have hb := v kV doc pm an cdv ct
  rw [e] at i3 hb
  exact ⟨inn, mg, ⟨⟨_, _, _, _, _, _, _, _, _, _, _, _, _, _, _, l, b⟩, sa, xe, xt, xk⟩, ⟨ga, gg, xe, hd⟩, no, ha, hn, ht, hm,
    ⟨fI, _, qual, clsArgs st, clsScope st, p1, p2, p3, p4, i1, i2, ⟨⟨oc, od, .none, kV, doc, pm, an, cdv, ct, osl, rfl, i3, i4, .inl ⟨rfl, rfl⟩, .inl rfl⟩, i5⟩, S, .all hb, hf⟩⟩
end Wr
namespace Wr
open PySem PySem.Spec L2
open PyProof.Rows hiding St
theorem kit_mk {K : PySem.W.Frag} {C D : Addr} {b : Bool} (hd : PySem.W.hasDictIn K D = true) (ht : PySem.W.typeIn K (.ref D) = some (.type "type")) (hm : PySem.W.mroIn K C (.ref D) = some b) (hb : b = true ∨ (C == D) = false) : PySem.W.kitOne K (.ref C) (.ref D) = some b := by
  obtain ⟨cd, hc, _⟩ := PySem.W.any_some hd
  have e2 : ((PySem.W.clsIn K D).isSome && PySem.W.typeIn K (.ref D) == some (.type "type")) = true := by rw [hc, ht] <;> rfl
  have r : PySem.W.kitCls K (.ref C) (.ref D) = some b := by
    show (if ((PySem.W.clsIn K D).isSome && PySem.W.typeIn K (.ref D) == some (.type "type")) = true then PySem.W.subIn K (.ref C) (.ref D) else none) = some b
    rw [if_pos e2]
    exact hm
  show (if (Value.ref C == Value.ref D) = true then some true else PySem.W.kitCls K (.ref C) (.ref D)) = some b
  by_cases h : (Value.ref C == Value.ref D) = true
  · rw [if_pos h]
    rcases hb with hb | hb
    · rw [hb]
    · have e : C = D := Value.ref.inj (beq_iff_eq.mp h)
      rw [e] at hb
      simp at hb
  · rw [if_neg h]
    exact r
theorem exm_mk {K : PySem.W.Frag} {C D : Addr} {b : Bool} (hd : PySem.W.hasDictIn K D = true) (ht : PySem.W.typeIn K (.ref D) = some (.type "type")) (he : PySem.W.subIn K (.ref D) (.type "BaseException") = some true) (hm : PySem.W.mroIn K C (.ref D) = some b) : PySem.W.exmOne K (.ref C) (.ref D) = some b :=
  PySem.W.exm_ref he hd ht hm
end Wr
namespace Wr
open PySem PySem.Spec L2
theorem log2_lt {n k : Nat} (h : n < 2 ^ k) (hk : 0 < k) : n.log2 < k := by
  by_cases hn : n = 0
  · subst hn
    rw [Nat.log2_zero]
    exact hk
  · exact (Nat.log2_lt hn).mpr h
/-- a number of at most k bits -/
def In (k : Nat) (i : Int) : Prop := i.natAbs < 2 ^ k
theorem mulOk_of {a b : Int} {k l : Nat} (ha : In k a) (hb : In l b) (h : k + l ≤ 900000 := by decide) : mulOk a b = true := by
  have h1 : a.natAbs.log2 < k + 1 := log2_lt (Nat.lt_of_lt_of_le ha (Nat.pow_le_pow_right (by decide) (Nat.le_succ k))) (Nat.succ_pos k)
  have h2 : b.natAbs.log2 < l + 1 := log2_lt (Nat.lt_of_lt_of_le hb (Nat.pow_le_pow_right (by decide) (Nat.le_succ l))) (Nat.succ_pos l)
  exact okB_of (by omega)
theorem fdOk_of {b : Int} {k : Nat} (h0 : 0 < b) (hb : In k b) (h : k ≤ 8000 := by decide) : fdOk b = true := by
  have h2 : b.natAbs.log2 < k + 1 := log2_lt (Nat.lt_of_lt_of_le hb (Nat.pow_le_pow_right (by decide) (Nat.le_succ k))) (Nat.succ_pos k)
  exact okB_of ⟨h0, by omega⟩
theorem shlOk_of {a b : Int} {k : Nat} (ha : In k a) (h0 : 0 ≤ b) (h1 : b ≤ 1000000) (h : k ≤ 900000 := by decide) : shlOk a b = true := by
  have h2 : a.natAbs.log2 < k + 1 := log2_lt (Nat.lt_of_lt_of_le ha (Nat.pow_le_pow_right (by decide) (Nat.le_succ k))) (Nat.succ_pos k)
  exact okB_of ⟨h0, by omega, h1⟩
theorem In.mul {a b : Int} {k l : Nat} (ha : In k a) (hb : In l b) : In (k + l) (a * b) := by
  show (a * b).natAbs < 2 ^ (k + l)
  rw [Int.natAbs_mul, Nat.pow_add]
  have h1 : a.natAbs * b.natAbs ≤ 2 ^ k * b.natAbs := Nat.mul_le_mul_right _ (Nat.le_of_lt ha)
  have h2 : 2 ^ k * b.natAbs < 2 ^ k * 2 ^ l := (Nat.mul_lt_mul_left (Nat.pow_pos (by decide))).mpr hb
  omega
theorem In.add {a b : Int} {k l : Nat} (ha : In k a) (hb : In l b) : In (max k l + 1) (a + b) := by
  show (a + b).natAbs < 2 ^ (max k l + 1)
  have h1 : (2 : Nat) ^ k ≤ 2 ^ max k l := Nat.pow_le_pow_right (by decide) (Nat.le_max_left _ _)
  have h2 : (2 : Nat) ^ l ≤ 2 ^ max k l := Nat.pow_le_pow_right (by decide) (Nat.le_max_right _ _)
  have ha' : a.natAbs < 2 ^ k := ha
  have hb' : b.natAbs < 2 ^ l := hb
  rw [Nat.pow_succ]
  omega
theorem In.of {a : Int} {k : Nat} (h0 : -(2 ^ k : Nat) < a) (h1 : a < (2 ^ k : Nat)) : In k a := by
  show a.natAbs < 2 ^ k
  omega
theorem In.mono {a : Int} {k l : Nat} (h : In k a) (hl : k ≤ l) : In l a := Nat.lt_of_lt_of_le h (Nat.pow_le_pow_right (by decide) hl)
theorem In.num {a : Int} {k : Nat} (h : a.natAbs < 2 ^ k) : In k a := h
theorem In.mod {a b : Int} {k : Nat} (h0 : 0 < b) (hb : In k b) : In k (a % b) := by
  have h1 := Int.emod_nonneg a (Int.ne_of_gt h0)
  have h2 := Int.emod_lt_of_pos a h0
  have hb' : b.natAbs < 2 ^ k := hb
  show (a % b).natAbs < 2 ^ k
  omega
def takeC : CDef := { np := 2, ns := 4, body :=
    (.cons (.ifs (.cmp .Gt (.ix (.var 0) (.int 0)) (.int 0))
    (.cons (.asg 3 (.bin .Mod (.ix (.var 0) (.int 0)) (.var 1)))
    (.cons (.seti 0 (.int 0) (.bin .FloorDiv (.ix (.var 0) (.int 0)) (.var 1)))
    (.cons (.ret (.var 3))
    .nil)))
    .nil)
    (.cons (.seti 0 (.int 2) (.bin .Add (.ix (.var 0) (.int 2)) (.int 1)))
    (.cons (.asg 2 (.bin .Mod (.bin .Mult (.bin .Add (.bin .Add (.ix (.var 0) (.int 1)) (.bin .Mult (.bin .Mult (.int 30011) (.ix (.var 0) (.int 2))) (.ix (.var 0) (.int 2)))) (.int 19)) (.int 72019)) (.int 2305843009213693921)))
    (.cons (.asg 2 (.bin .Mod (.bin .Mult (.var 2) (.bin .Add (.bin .Add (.bin .Mod (.var 2) (.int 1000099)) (.bin .Mult (.int 40009) (.ix (.var 0) (.int 2)))) (.int 11))) (.int 2305843009213693951)))
    (.cons (.ret (.bin .Mod (.bin .Add (.bin .FloorDiv (.var 2) (.int 109)) (.bin .FloorDiv (.var 2) (.int 999979))) (.var 1)))
    .nil))))) }
/-- a pot from which at most n numbers were blended -/
def PotI (n : Nat) (d : D) : Prop := ∃ a b c : Int, d = .lst [.int a, .int b, .int c] ∧ In 61 b ∧ 0 ≤ c ∧ c ≤ n
theorem PotI.mono {n m : Nat} {d : D} (h : PotI n d) (l : n ≤ m) : PotI m d := by
  obtain ⟨a, b, c, e, h1, h2, h3⟩ := h
  exact ⟨a, b, c, e, h1, h2, by omega⟩
theorem take_ok (cf : Fn) {n : Nat} {pot : D} {m : Int} (hp : PotI n pot) (hn : n < 2 ^ 60) (h0 : 0 < m) (hm : In 100 m) :
    ∃ r pot', 0 ≤ r ∧ r < m ∧ PotI (n + 1) pot' ∧ runD cf takeC [.io pot, .sh (.int m)] = .ok (.sh (.int r)) [.io pot', .sh (.int m)] := by
  obtain ⟨a, b, c, rfl, hb, c0, c1⟩ := hp
  have f1 := fdOk_of h0 hm
  by_cases ha : 0 < a
  · refine ⟨a % m, .lst [.int (a / m), .int b, .int c], Int.emod_nonneg _ (by omega), Int.emod_lt_of_pos _ h0, ⟨_, _, _, rfl, hb, c0, by omega⟩, ?_⟩
    simp [runD, takeC, sss, ss, sm, sms, Sm.of, Sm.vt, smVar, rdVar, op2, Re.bd, Re.of, Pl.at, slD?, ixD, atI, cmpop, binop, truD, Rs.d, asgV, setRs, setiV, ownL, chg, ixN, ha, h0, f1]
  · have hc : In 61 (c + 1) := .of (by omega) (by have : (2:Nat)^60 = 1152921504606846976 := by decide
                                                  have : (2:Nat)^61 = 2305843009213693952 := by decide
                                                  omega)
    have i1 : In 15 (30011 : Int) := .num (by decide)
    have m1 := mulOk_of i1 hc
    have m2 := mulOk_of (i1.mul hc) hc
    have i2 := (hb.add ((i1.mul hc).mul hc)).add (show In 15 (19 : Int) from .num (by decide))
    have m3 := mulOk_of i2 (show In 20 (72019 : Int) from .num (by decide)) (by decide)
    have m4 := mulOk_of (show In 20 (40009 : Int) from .num (by decide)) hc
    generalize hX : (b + 30011 * (c + 1) * (c + 1) + 19) * 72019 % 2305843009213693921 = x at *
    have hx : In 62 x := by rw [← hX]; exact .mod (by decide) (.num (by decide))
    have i3 := ((show In 21 (x % 1000099) from .mod (by decide) (.num (by decide))).add ((show In 20 (40009 : Int) from .num (by decide)).mul hc)).add (show In 5 (11 : Int) from .num (by decide))
    have m5 := mulOk_of hx i3 (by decide)
    have f2 : fdOk 109 = true := fdOk_of (k := 10) (by decide) (.num (by decide))
    have f3 : fdOk 999979 = true := fdOk_of (k := 20) (by decide) (.num (by decide))
    refine ⟨(x * (x % 1000099 + 40009 * (c + 1) + 11) % 2305843009213693951 / 109 + x * (x % 1000099 + 40009 * (c + 1) + 11) % 2305843009213693951 / 999979) % m, .lst [.int a, .int b, .int (c + 1)], Int.emod_nonneg _ (by omega), Int.emod_lt_of_pos _ h0, ⟨_, _, _, rfl, hb, by omega, by omega⟩, ?_⟩
    simp [runD, takeC, sss, ss, sm, sms, Sm.of, Sm.vt, smVar, rdVar, op2, Re.bd, Re.of, Pl.at, slD?, ixD, atI, cmpop, binop, truD, Rs.d, asgV, setRs, setiV, ownL, chg, ixN, ha, h0, f1, m1, m2, m3, m4, m5, f2, f3, hX]
end Wr
namespace Wr
open PySem PySem.Spec L2
def potC : CDef := { np := 2, ns := 4, body :=
    (.cons (.asg 2 (.bin .Add (.bin .Mult (.int 19) (.var 1)) (.int 4)))
    (.cons (.ifs (.cmp .Lt (.var 1) (.bi .len (.cons (.var 0) .nil)))
    (.cons (.asg 2 (.ix (.var 0) (.var 1)))
    .nil)
    .nil)
    (.cons (.asg 3 (.bin .Mult (.bin .Mod (.bi .abs (.cons (.var 2) .nil)) (.bin .Pow (.bin .Pow (.int 10) (.int 60)) (.int 5))) (.bi .int1 (.cons (.cmp .GtE (.bi .abs (.cons (.var 2) .nil)) (.bin .Pow (.int 10) (.int 18))) .nil))))
    (.cons (.ret (.lst (.cons (.var 3) (.cons (.bin .Mod (.bin .Add (.bin .Add (.bin .Mult (.bin .Mod (.var 2) (.int 2305843009213693951)) (.int 68777)) (.bin .Mult (.bin .Mult (.int 5003) (.var 1)) (.var 1))) (.int 29)) (.int 2305843009213693907)) (.cons (.int 0) .nil)))))
    .nil)))) }
def absI (i : Int) : Int := if i < 0 then -i else i
def ownN (cell : Int) : Int := absI cell % (10 ^ 60) ^ 5 * (if 10 ^ 18 ≤ absI cell then 1 else 0)
def seedN (k cell : Int) : Int := (cell % 2305843009213693951 * 68777 + 5003 * k * k + 29) % 2305843009213693907
theorem ite_dec {p : Prop} [Decidable p] : (if decide p = true then (1 : Int) else 0) = if p then 1 else 0 := by by_cases h : p <;> simp [h]
theorem pot_in {cell : Int} : mulOk (absI cell % (10 ^ 60) ^ 5) (if 10 ^ 18 ≤ absI cell then 1 else 0) = true := by
  have i1 : In 1000 (absI cell % (10 ^ 60) ^ 5) := .mod (by decide +kernel) (.num (by decide +kernel))
  have i2 : In 1 (if (10 : Int) ^ 18 ≤ absI cell then (1 : Int) else 0) := by by_cases h : (10 : Int) ^ 18 ≤ absI cell <;> simp only [h, if_true, if_false] <;> exact .num (by decide)
  exact mulOk_of i1 i2
theorem b_add {a b : Int} : binop .Add (.int a) (.int b) = some (.sh (.int (a + b))) := rfl
theorem b_sub {a b : Int} : binop .Sub (.int a) (.int b) = some (.sh (.int (a - b))) := rfl
theorem b_mul {a b : Int} (h : mulOk a b = true) : binop .Mult (.int a) (.int b) = some (.sh (.int (a * b))) := if_pos h
theorem b_fdv {a b : Int} (h : fdOk b = true) : binop .FloorDiv (.int a) (.int b) = some (.sh (.int (a / b))) := if_pos h
theorem b_mod {a b : Int} (h : 0 < b) : binop .Mod (.int a) (.int b) = some (.sh (.int (a % b))) := if_pos h
theorem b_pow {a b : Int} (h : powOk a b = true) : binop .Pow (.int a) (.int b) = some (.sh (.int (a ^ b.toNat))) := if_pos h
theorem b_shl {a b : Int} (h : shlOk a b = true) : binop .LShift (.int a) (.int b) = some (.sh (.int (a * 2 ^ b.toNat))) := if_pos h
theorem b_shr {a b : Int} (h : 0 ≤ b) : binop .RShift (.int a) (.int b) = some (.sh (.int (a / 2 ^ b.toNat))) := if_pos h
theorem b_and {a b : Int} : binop .BitAnd (.int a) (.int b) = some (.sh (.int (Builtin.bitAnd a b))) := rfl
theorem b_or {a b : Int} : binop .BitOr (.int a) (.int b) = some (.sh (.int (Builtin.bitOr a b))) := rfl
theorem c_lt {a b : Int} : cmpop .Lt (.int a) (.int b) = some (decide (a < b)) := rfl
theorem c_le {a b : Int} : cmpop .LtE (.int a) (.int b) = some (decide (a ≤ b)) := rfl
theorem c_gt {a b : Int} : cmpop .Gt (.int a) (.int b) = some (decide (b < a)) := rfl
theorem c_ge {a b : Int} : cmpop .GtE (.int a) (.int b) = some (decide (b ≤ a)) := rfl
theorem f_abs {a : Int} : biF .abs [.int a] = some (.sh (.int (absI a))) := rfl
theorem f_int {b : Bool} : biF .int1 [.bl b] = some (.sh (.int (if b then 1 else 0))) := rfl
theorem f_lenL {xs : List D} : biF .len [.lst xs] = some (.sh (.int xs.length)) := rfl
theorem f_lenT {xs : List D} : biF .len [.tup xs] = some (.sh (.int xs.length)) := rfl
theorem x_lst {xs : List D} {k : Nat} {d : D} (h : xs[k]? = some d) : ixD (.lst xs) (.int k) = some d := atI_nat h
theorem pot_ok (cf : Fn) {ns : List Int} {k : Nat} (hk : k ≤ 63) : ∃ pot, PotI 0 pot ∧ runD cf potC [.sh (.lst (ns.map D.int)), .sh (.int k)] = .ok (.fr pot) [.sh (.lst (ns.map D.int)), .sh (.int k)] := by
  have p1 : powOk 10 60 = true := okB_of (by decide)
  have p2 : powOk (10 ^ 60) 5 = true := okB_of (by decide)
  have p3 : powOk 10 18 = true := okB_of (by decide)
  have ik : In 6 (k : Int) := .of (by omega) (by omega)
  have m1 := mulOk_of (show In 5 (19 : Int) from .num (by decide)) ik
  have m2 := mulOk_of (show In 13 (5003 : Int) from .num (by decide)) ik
  have m3 := mulOk_of ((show In 13 (5003 : Int) from .num (by decide)).mul ik) ik
  have n0 : (0 : Int) < (10 ^ 60) ^ 5 := by decide
  have pin := @pot_in
  have m5 : ∀ cell : Int, mulOk (cell % 2305843009213693951) 68777 = true := fun cell => mulOk_of (show In 61 (cell % 2305843009213693951) from .mod (by decide) (.num (by decide))) (show In 20 (68777 : Int) from .num (by decide))
  have n1 : (0 : Int) < 2305843009213693951 := by decide
  have n2 : (0 : Int) < 2305843009213693907 := by decide
  have t60 : Int.toNat 60 = 60 := rfl
  have t5 : Int.toNat 5 = 5 := rfl
  have t18 : Int.toNat 18 = 18 := rfl
  have fin : ∀ cell : Int, PotI 0 (.lst [.int (ownN cell), .int (seedN k cell), .int 0]) := fun cell => ⟨_, _, _, rfl, .mod (by decide) (.num (by decide)), by decide, by decide⟩
  by_cases hl : k < ns.length
  · refine ⟨_, fin ns[k], ?_⟩
    have hx : (ns.map D.int)[k]? = some (.int ns[k]) := by simp [hl]
    have hl' : (k : Int) < ns.length := by omega
    generalize ns[k] = cell at *
    simp only [potC, runD, List.length_cons, List.length_nil, sss, ss, sm, sms, smA, smO, smI, Sm.of, Sm.vt, smVar, rdVar, op1, op2, Re.bd, Re.of, Pl.at, slD?, truD, Rs.d, asgV, setRs, biV, evBs, plAll, evEs, evOp, evA, evTo, evO, evTs, List.cons_append, List.nil_append, List.append_nil, List.replicate, List.getElem?_cons_zero, List.getElem?_cons_succ, List.set_cons_zero, List.set_cons_succ, Option.bind_some, Option.map_some, b_add, b_sub, c_lt, c_le, c_gt, c_ge, f_abs, f_int, f_lenL, f_lenT, decide_true, decide_false, if_true, if_false, Bool.false_eq_true, ite_dec, rngI, rngV, lcV, noOwn, CT.ix, List.all_cons, List.all_nil, Bool.and_true, Sl.own, Bool.not_false, wipeR, backR, bindT, setSh, setShs, asgTV, asgLV, called, lend, lent, home, List.take_succ_cons, List.take_zero, List.nodup_nil, List.nodup_cons, List.not_mem_nil, not_false_eq_true, and_self, itemsD, seqOf, Option.toList, enuI, Nat.reduceSub, Nat.reduceAdd, Nat.reduceEqDiff, b_mul m1, b_mul m2, b_mul m3, b_mul (m5 _), b_mul pin, b_mod n0, b_mod n1, b_mod n2, b_pow p1, b_pow p2, b_pow p3, x_lst hx, t60, t5, t18, List.length_map, hl', -Int.reducePow]
    rw [if_pos (by decide)]
    rfl
  · refine ⟨_, fin (19 * k + 4), ?_⟩
    have hl' : ¬ (k : Int) < ns.length := by omega
    simp only [potC, runD, List.length_cons, List.length_nil, sss, ss, sm, sms, smA, smO, smI, Sm.of, Sm.vt, smVar, rdVar, op1, op2, Re.bd, Re.of, Pl.at, slD?, truD, Rs.d, asgV, setRs, biV, evBs, plAll, evEs, evOp, evA, evTo, evO, evTs, List.cons_append, List.nil_append, List.append_nil, List.replicate, List.getElem?_cons_zero, List.getElem?_cons_succ, List.set_cons_zero, List.set_cons_succ, Option.bind_some, Option.map_some, b_add, b_sub, c_lt, c_le, c_gt, c_ge, f_abs, f_int, f_lenL, f_lenT, decide_true, decide_false, if_true, if_false, Bool.false_eq_true, ite_dec, rngI, rngV, lcV, noOwn, CT.ix, List.all_cons, List.all_nil, Bool.and_true, Sl.own, Bool.not_false, wipeR, backR, bindT, setSh, setShs, asgTV, asgLV, called, lend, lent, home, List.take_succ_cons, List.take_zero, List.nodup_nil, List.nodup_cons, List.not_mem_nil, not_false_eq_true, and_self, itemsD, seqOf, Option.toList, enuI, Nat.reduceSub, Nat.reduceAdd, Nat.reduceEqDiff, b_mul m1, b_mul m2, b_mul m3, b_mul (m5 _), b_mul pin, b_mod n0, b_mod n1, b_mod n2, b_pow p1, b_pow p2, b_pow p3, t60, t5, t18, List.length_map, hl', -Int.reducePow]
    rw [if_pos (by decide)]
    rfl
end Wr
namespace Wr
open PySem PySem.Spec L2
theorem f_min {a b : Int} : biF .min2 [.int a, .int b] = some (.sh (.int (if b < a then b else a))) := rfl
theorem f_max {a b : Int} : biF .max2 [.int a, .int b] = some (.sh (.int (if b > a then b else a))) := rfl
theorem x_tup0 {a : D} {xs : List D} : ixD (.tup (a :: xs)) (.int 0) = some a := by
  show atI (a :: xs) ((0 : Nat) : Int) = _
  exact atI_nat rfl
theorem x_tup1 {a b : D} {xs : List D} : ixD (.tup (a :: b :: xs)) (.int 1) = some b := by
  show atI (a :: b :: xs) ((1 : Nat) : Int) = _
  exact atI_nat rfl
theorem x_tup {xs : List D} {k : Nat} {d : D} (h : xs[k]? = some d) : ixD (.tup xs) (.int k) = some d := atI_nat h
def shapeC : CDef := { np := 2, ns := 3, body :=
    (.cons (.asg 2 (.bin .Add (.int 1) (.call "_law_take" (.io 0 (.ex (.var 1) .nil)))))
    (.cons (.ret (.tup (.cons (.var 2) (.cons (.bin .Add (.int 1) (.call "_law_take" (.io 0 (.ex (.bi .min2 (.cons (.int 4) (.cons (.bin .FloorDiv (.var 1) (.var 2)) .nil))) .nil)))) .nil))))
    .nil)) }
/-- a shape of at most m input bits -/
def ShI (m : Nat) (d : D) : Prop := ∃ w i : Nat, d = .tup [.int w, .int i] ∧ 1 ≤ w ∧ 1 ≤ i ∧ i ≤ 4 ∧ w * i ≤ m
theorem shape_ok (cf cf' : Fn) (hT : ∀ args, cf "_law_take" args = runD cf' takeC args) {n : Nat} {pot : D} {m : Nat} (hp : PotI n pot) (hn : n + 1 < 2 ^ 60) (h0 : 0 < m) (hm : m ≤ 255) :
    ∃ d pot', ShI m d ∧ PotI (n + 2) pot' ∧ runD cf shapeC [.io pot, .sh (.int m)] = .ok (.sh d) [.io pot', .sh (.int m)] := by
  obtain ⟨r, p1, r0, r1, i1, e1⟩ := take_ok cf' (m := m) hp (by omega) (by omega) (.of (by omega) (by omega))
  have s0 : (1 : Int) ≤ (m : Int) / (1 + r) := (Int.le_ediv_iff_mul_le (by omega)).mpr (by omega)
  have f1 : fdOk (1 + r) = true := fdOk_of (k := 10) (by omega) (.of (by omega) (by omega))
  have s1 : (m : Int) / (1 + r) ≤ m := Int.ediv_le_self _ (by omega)
  generalize hq : (m : Int) / (1 + r) = q at *
  have hmin : (0 : Int) < (if q < 4 then q else 4) ∧ (if q < 4 then q else 4) ≤ 4 ∧ (if q < 4 then q else 4) ≤ q := by split <;> omega
  generalize hb : (if q < 4 then q else 4) = b at *
  obtain ⟨t, p2, t0, t1, i2, e2⟩ := take_ok cf' (m := b) i1 (by omega) hmin.1 (.of (by omega) (by omega))
  refine ⟨.tup [.int (1 + r), .int (1 + t)], p2, ⟨(1 + r).toNat, (1 + t).toNat, ?_, by omega, by omega, by omega, ?_⟩, i2, ?_⟩
  · rw [Int.toNat_of_nonneg (by omega), Int.toNat_of_nonneg (by omega)]
  · have h1 : (1 + r) * (1 + t) ≤ (1 + r) * q := Int.mul_le_mul_of_nonneg_left (by omega) (by omega)
    have h2 : (1 + r) * q ≤ m := by rw [← hq]; exact Int.mul_ediv_self_le (by omega)
    have h3 : (((1 + r).toNat * (1 + t).toNat : Nat) : Int) = (1 + r) * (1 + t) := by
      rw [Int.natCast_mul, Int.toNat_of_nonneg (by omega), Int.toNat_of_nonneg (by omega)]
    omega
  · rw [← hT] at e1 e2
    simp only [shapeC, runD, List.length_cons, List.length_nil, sss, ss, sm, sms, smA, smO, smI, Sm.of, Sm.vt, smVar, rdVar, op1, op2, Re.bd, Re.of, Pl.at, slD?, truD, Rs.d, asgV, setRs, biV, evBs, plAll, evEs, evOp, evA, evTo, evO, evTs, List.cons_append, List.nil_append, List.append_nil, List.replicate, List.getElem?_cons_zero, List.getElem?_cons_succ, List.set_cons_zero, List.set_cons_succ, Option.bind_some, Option.map_some, b_add, b_sub, c_lt, c_le, c_gt, c_ge, f_abs, f_int, f_lenL, f_lenT, decide_true, decide_false, if_true, if_false, Bool.false_eq_true, ite_dec, rngI, rngV, lcV, noOwn, CT.ix, List.all_cons, List.all_nil, Bool.and_true, Sl.own, Bool.not_false, wipeR, backR, bindT, setSh, setShs, asgTV, asgLV, called, lend, lent, home, List.take_succ_cons, List.take_zero, List.nodup_nil, List.nodup_cons, List.not_mem_nil, not_false_eq_true, and_self, itemsD, seqOf, Option.toList, enuI, Nat.reduceSub, Nat.reduceAdd, Nat.reduceEqDiff, e1, e2, f_min, b_fdv f1, hq, hb]
    rw [if_pos (by decide)]
    rfl
theorem lcRun_map {step : D → Rho → Re (Option D)} {ρ : Rho} (f : D → D) : ∀ {xs : List D}, (∀ x ∈ xs, step x ρ = .ok (some (f x)) ρ) → lcRun step xs ρ = .ok (xs.map f) ρ
  | [], _ => rfl
  | x :: xs, h => by
    have ih := lcRun_map f (xs := xs) fun y hy => h y (List.mem_cons_of_mem _ hy)
    simp only [lcRun, h x List.mem_cons_self, ih]
    rfl
theorem forRun_inv {step : D → Rho → Re Out} (I : Nat → Rho → Prop) : ∀ {xs : List D} {ρ : Rho} {n : Nat}, I n ρ → (∀ i x ρ, xs[i]? = some x → I (n + i) ρ → ∃ ρ', step x ρ = .ok .nx ρ' ∧ I (n + i + 1) ρ') → ∃ ρ', forRun step xs ρ = .ok .nx ρ' ∧ I (n + xs.length) ρ'
  | [], ρ, n, h, _ => ⟨ρ, rfl, h⟩
  | x :: xs, ρ, n, h, hs => by
    obtain ⟨ρ1, e1, h1⟩ := hs 0 x ρ rfl h
    obtain ⟨ρ2, e2, h2⟩ := forRun_inv I (xs := xs) (n := n + 1) h1 fun i y ρ' hy hi => by
      have := hs (i + 1) y ρ' (by simpa using hy) (by rw [show n + (i + 1) = n + 1 + i by omega]; exact hi)
      rwa [show n + (i + 1) + 1 = n + 1 + i + 1 by omega] at this
    refine ⟨ρ2, ?_, by rw [List.length_cons, show n + (xs.length + 1) = n + 1 + xs.length by omega]; exact h2⟩
    unfold forRun
    rw [e1]
    exact e2
theorem rngD_nat (n : Nat) : rngD 0 (n : Int) = (List.range n).map fun i => D.int (i : Nat) := by
  unfold rngD
  rw [show ((n : Int) - 0).toNat = n by omega]
  exact List.map_congr_left fun i _ => by rw [Int.zero_add]
theorem rngOk_nat {n : Nat} (h : n ≤ 1000000) : rngOk 0 (n : Int) = true := by
  refine okB_of ⟨by decide, by decide, by omega, by omega, ?_⟩
  have : (2 : Nat) ^ 24 = 16777216 := by decide
  omega
end Wr
namespace Wr
open PySem PySem.Spec L2
mutual
def smD : D → Bool
  | .non => true
  | .bl _ => true
  | .int i => decide (i.natAbs < 10 ^ 12)
  | .str x => (x.cps.toList.all fun c => decide (c < 16 ^ 8)) && decide (x.cps.size ≤ 41)
  | .dct [] => true
  | .dct [(.inr x, d)] => ((x.cps.toList.all fun c => decide (c < 16 ^ 8)) && decide (x.cps.size ≤ 41)) && smD d
  | .tup ds => smDs ds
  | .lst ds => smDs ds
  | _ => false
def smDs : List D → Bool
  | [] => true
  | d :: ds => smD d && smDs ds
end
mutual
/-- depth and weight, from above -/
def dpD : D → Nat
  | .tup ds => dpDs ds + 1
  | .lst ds => dpDs ds + 1
  | .dct [(.inr _, d)] => dpD d + 1
  | .dct _ => 1
  | _ => 0
def dpDs : List D → Nat
  | [] => 0
  | d :: ds => max (dpD d) (dpDs ds)
end
mutual
def wtD : D → Nat
  | .tup ds => wtDs ds
  | .lst ds => wtDs ds
  | .dct [(.inr _, d)] => wtD d + 43
  | _ => 41
def wtDs : List D → Nat
  | [] => 0
  | d :: ds => wtD d + 1 + wtDs ds
end
theorem int_log {i : Int} (h : i.natAbs < 10 ^ 12) : i.natAbs.log2 < 40 := by
  refine log2_lt ?_ (by decide)
  have : (10 : Nat) ^ 12 = 1000000000000 := by decide
  have : (2 : Nat) ^ 40 = 1099511627776 := by decide
  omega
mutual
theorem sm_py : ∀ (d : D), smD d = true → ∃ p, shD d = some p ∧ p.showable = true ∧ p.leavesShort 13 = true ∧ p.depth ≤ dpD d ∧ p.weight ≤ wtD d
  | .non, _ => ⟨.none, rfl, rfl, rfl, Nat.le_refl _, Nat.zero_le _⟩
  | .bl b, _ => ⟨.bool b, rfl, rfl, rfl, Nat.le_refl _, Nat.zero_le _⟩
  | .int i, h => by
    have h' : i.natAbs < 10 ^ 12 := of_decide_eq_true h
    have h2 := int_log h'
    refine ⟨.int i, rfl, decide_eq_true (by omega), decide_eq_true (PyData.shown_int_le h'), Nat.le_refl _, ?_⟩
    show (if i == 0 then 0 else i.natAbs.log2 + 1) ≤ 41
    split <;> omega
  | .tup ds, h => by
    obtain ⟨ps, e, h1, h2, h3, h4⟩ := sms_py ds h
    exact ⟨.tuple ps, by rw [shD, e]; rfl, h1, h2, Nat.succ_le_succ h3, h4⟩
  | .lst ds, h => by
    obtain ⟨ps, e, h1, h2, h3, h4⟩ := sms_py ds h
    exact ⟨.list ps, by rw [shD, e]; rfl, h1, h2, Nat.succ_le_succ h3, h4⟩
  | .str x, h => by
    obtain ⟨h1, h2⟩ := and3 (show ((x.cps.toList.all fun c => decide (c < 16 ^ 8)) && decide (x.cps.size ≤ 41)) = true from h)
    exact ⟨.str x, rfl, rfl, h1, Nat.le_refl _, of_decide_eq_true h2⟩
  | .dct [], _ => ⟨.dict [], rfl, rfl, rfl, Nat.le_refl _, Nat.zero_le _⟩
  | .dct [(.inr x, d)], h => by
    obtain ⟨g1, g2⟩ := and3 (show (((x.cps.toList.all fun c => decide (c < 16 ^ 8)) && decide (x.cps.size ≤ 41)) && smD d) = true from h)
    obtain ⟨g3, g4⟩ := and3 g1
    obtain ⟨p, e, h1, h2, h3, h4⟩ := sm_py d g2
    refine ⟨.dict [(.str x, p)], by rw [shD, e]; rfl, ?_, ?_, ?_, ?_⟩
    · show ((PyData.str x).showable && p.showable && true) = true
      rw [h1]; rfl
    · show (((x.cps.toList.all fun c => decide (c < 16 ^ 8)) && p.leavesShort 13) && true) = true
      rw [h2, g3]; rfl
    · show max (max 0 p.depth) 0 + 1 ≤ dpD d + 1
      omega
    · have := of_decide_eq_true g4
      show x.cps.size + p.weight + 2 + 0 ≤ wtD d + 43
      omega
  | .dct ((.inl _, _) :: _), h => by cases h
  | .dct ((.inr _, _) :: _ :: _), h => by cases h
  | .fnc _, h => by cases h
  | .kdc _, h => by cases h
  | .dtc _, h => by cases h
theorem sms_py : ∀ (ds : List D), smDs ds = true → ∃ ps, shDs ds = some ps ∧ PyData.showableAll ps = true ∧ PyData.leavesShortAll 13 ps = true ∧ PyData.depthAll ps ≤ dpDs ds ∧ PyData.weightAll ps ≤ wtDs ds
  | [], _ => ⟨[], rfl, rfl, rfl, Nat.le_refl _, Nat.le_refl _⟩
  | d :: ds, h => by
    obtain ⟨g1, g2⟩ := and3 (show (smD d && smDs ds) = true from h)
    obtain ⟨p, e, h1, h2, h3, h4⟩ := sm_py d g1
    obtain ⟨ps, es, k1, k2, k3, k4⟩ := sms_py ds g2
    refine ⟨p :: ps, by rw [shDs, e, es], ?_, ?_, ?_, ?_⟩
    · show (p.showable && PyData.showableAll ps) = true
      rw [h1, k1]; rfl
    · show (p.leavesShort 13 && PyData.leavesShortAll 13 ps) = true
      rw [h2, k2]; rfl
    · show max p.depth (PyData.depthAll ps) ≤ max (dpD d) (dpDs ds)
      omega
    · show p.weight + 1 + PyData.weightAll ps ≤ wtD d + 1 + wtDs ds
      omega
end
theorem repr_ok {d : D} (h : smD d = true) (h1 : dpD d ≤ 60) (h2 : wtD d ≤ 1000000) : ∃ x, biF .repr [d] = some (.sh (.str x)) := by
  obtain ⟨p, e, g1, g2, g3, g4⟩ := sm_py d h
  refine ⟨p.shown, ?_⟩
  show reprD d = _
  unfold reprD
  rw [e]
  refine if_pos ⟨g1, by omega, ?_⟩
  have := PyData.shown_le 13 (by decide) p g2
  have : sizeL = 16777216 := rfl
  omega
theorem repr_int {n : Int} (h : n.natAbs < 10 ^ 12) : ∃ x, biF .repr [.int n] = some (.sh (.str x)) := repr_ok (d := .int n) (decide_eq_true h) (Nat.zero_le _) (show 41 ≤ 1000000 by decide)
theorem c_eqS {x : Str} : cmpop .Eq (.str x) (.str x) = some true := by show some (decide (x = x)) = _; simp
end Wr
namespace Wr
open PySem PySem.Spec L2
noncomputable def lcW (cf : Fn) (tg : CT) (it : CI) (ifs : CEs) (e : CE) : Rho → Re Rs := lcV tg (smI cf it) (sms cf ifs) (sm cf e)
noncomputable def lc2W (cf : Fn) (tg : CT) (it : CI) (tg1 : CT) (it1 : CI) (e : CE) : Rho → Re Rs := lc2V tg (smI cf it) tg1 (smI cf it1) (sm cf e)
noncomputable def forW (cf : Fn) (tg : CT) (body : CSs) (xs : List D) (ρ : Rho) : Re Out := forRun (forTurn tg (sss cf body)) xs ρ
theorem e_var {cf : Fn} {i : Nat} : sm cf (.var i) = smVar i := rfl
theorem e_int {cf : Fn} {i : Int} : sm cf (.int i) = .of fun ρ => .ok (.sh (.int i)) ρ := rfl
theorem e_bl {cf : Fn} {b : Bool} : sm cf (.bl b) = .of fun ρ => .ok (.sh (.bl b)) ρ := rfl
theorem e_non {cf : Fn}  : sm cf (.non ) = .of fun ρ => .ok (.sh .non) ρ := rfl
theorem e_str {cf : Fn} {x : Str} : sm cf (.str x) = .of fun ρ => .ok (.sh (.str x)) ρ := rfl
theorem e_fnc {cf : Fn} {x : Str} : sm cf (.fnc x) = .of fun ρ => .ok (.sh (.fnc x)) ρ := rfl
theorem e_bin {cf : Fn} {op : Operator} {a : CE} {b : CE} : sm cf (.bin op a b) = .of (op2 (sm cf a).o (sm cf b).o fun x y ρ => .of (binop op x y) ρ) := rfl
theorem e_neg {cf : Fn} {a : CE} : sm cf (.neg a) = .of (op1 (sm cf a).o fun x ρ => .of (negD x) ρ) := rfl
theorem e_inv {cf : Fn} {a : CE} : sm cf (.inv a) = .of (op1 (sm cf a).o fun x ρ => .of (invD x) ρ) := rfl
theorem e_cmp {cf : Fn} {op : CmpOp} {a : CE} {b : CE} : sm cf (.cmp op a b) = .of (op2 (sm cf a).o (sm cf b).o fun x y ρ => .of ((cmpop op x y).map fun k => .sh (.bl k)) ρ) := rfl
theorem e_chn {cf : Fn} {o : CmpOp} {o' : CmpOp} {a : CE} {b : CE} {c : CE} : sm cf (.chn o o' a b c) = .of (chnV o o' (sm cf a).o (sm cf b).o (sm cf c).o) := rfl
theorem e_bop {cf : Fn} {k : Bool} {es : CEs} : sm cf (.bop k es) = .vt (evO k (sms cf es)) (evTo k (sms cf es)) := rfl
theorem e_nt {cf : Fn} {a : CE} : sm cf (.nt a) = .vt (op1 (sm cf a).o fun x ρ => .of (notD x) ρ) (fun ρ => ((sm cf a).t ρ).bd fun c ρ1 => .ok (!c) ρ1) := rfl
theorem e_ite {cf : Fn} {c : CE} {a : CE} {b : CE} : sm cf (.ite c a b) = .vt (fun ρ => ((sm cf c).t ρ).bd fun t ρ1 => if t = true then (sm cf a).v ρ1 else (sm cf b).v ρ1) (fun _ => .st) := rfl
theorem e_tupS {cf : Fn} {es : CEs} {e : CE} : sm cf (.tupS es e) = .of fun ρ => (evSt (sms cf es) (sm cf e) ρ).bd fun ds ρ1 => if ds.length ≤ sizeL then .ok (.sh (.tup ds)) ρ1 else .st := rfl
theorem e_tup {cf : Fn} {es : CEs} : sm cf (.tup es) = .of fun ρ => (evEs (sms cf es) ρ).bd fun ds ρ1 => if ds.length ≤ sizeL then .ok (.sh (.tup ds)) ρ1 else .st := rfl
theorem e_lst {cf : Fn} {es : CEs} : sm cf (.lst es) = .of fun ρ => (evEs (sms cf es) ρ).bd fun ds ρ1 => if ds.length ≤ sizeL then .ok (.fr (.lst ds)) ρ1 else .st := rfl
theorem e_lstS {cf : Fn} {e : CE} {es : CEs} : sm cf (.lstS e es) = .of fun ρ => (evSf (sm cf e) (sms cf es) ρ).bd fun ds ρ1 => if ds.length ≤ sizeL then .ok (.fr (.lst ds)) ρ1 else .st := rfl
theorem e_lnS {cf : Fn} {a : CE} : sm cf (.lnS a) = .of fun ρ => ((sm cf a).v ρ).bd fun r ρ1 => .of (lnSD r.d) ρ1 := rfl
theorem i_rng3 {cf : Fn} {es : CEs} : smI cf (.rng3 es) = rng3I (sms cf es) := rfl
theorem e_dct {cf : Fn} {ks : List Str} {es : CEs} : sm cf (.dct ks es) = .of fun ρ => (evEs (sms cf es) ρ).bd fun ds ρ1 => .ok (.fr (.dct (dctD ks ds))) ρ1 := rfl
theorem d_asgL {cf : Fn} {is : List Nat} {e : CE} : ss cf (.asgL is e) = asgLV is (sm cf e) := rfl
theorem e_dctT {cf : Fn} : sm cf .dctT = .of fun ρ => .ok (.fr (.dtc [])) ρ := rfl
theorem e_popL {cf : Fn} {i : Nat} : sm cf (.popL i) = .of (popV i) := rfl
theorem d_setd {cf : Fn} {i : Nat} {k : CE} {e : CE} : ss cf (.setd i k e) = setdV i (sm cf k) (sm cf e) := rfl
theorem e_gd {cf : Fn} {x : Str} {kvs : List (Str × GV)} : sm cf (.gd x kvs) = .of fun ρ => .ok (.sh (.kdc kvs)) ρ := rfl
theorem e_spl {cf : Fn} {a b : CE} : sm cf (.spl a b) = .of (stV (sm cf a) (sm cf b) splD) := rfl
theorem e_ptn {cf : Fn} {a b : CE} : sm cf (.ptn a b) = .of (stV (sm cf a) (sm cf b) ptnD) := rfl
theorem e_ix {cf : Fn} {a : CE} {i : CE} : sm cf (.ix a i) = .of (op2 (sm cf a).o (sm cf i).o fun x y ρ => .of ((ixD x y).map .sh) ρ) := rfl
theorem e_sl {cf : Fn} {a : CE} {lo : CO} {hi : CO} : sm cf (.sl a lo hi) = .of (slV (sm cf a) (smO cf lo) (smO cf hi)) := rfl
theorem e_bi {cf : Fn} {f : Bi} {es : CEs} : sm cf (.bi f es) = .of (biV f (sms cf es)) := rfl
theorem e_isi {cf : Fn} {t : Ty} {a : CE} : sm cf (.isi t a) = .of (op1 (sm cf a).o fun x ρ => .of ((isiD t x).map fun b => .sh (.bl b)) ρ) := rfl
theorem e_isx {cf : Fn} {t : Bool} {xs : List Str} {a : CE} : sm cf (.isx t xs a) = .of (op1 (sm cf a).o fun x ρ => .of ((isxD xs x).map fun b => .sh (.bl b)) ρ) := rfl
theorem e_att {cf : Fn} {f : Str} {a : CE} : sm cf (.att f a) = .of (op1 (sm cf a).o fun x ρ => .of ((attD f x).map .sh) ρ) := rfl
theorem d_rse {cf : Fn} {x f : Str} {e : CE} : ss cf (.rse x f e) = rseV x f (sm cf e) := rfl
theorem d_tryx {cf : Fn} {m : TB} {e : CE} {i j : Nat} {r : Str} : ss cf (.tryx m e i j r) = tryV (tbV m (sm cf e)) i j := rfl
theorem e_rngL {cf : Fn} {es : CEs} : sm cf (.rngL es) = .of (rngV (fun ds => .fr (.lst ds)) (sms cf es)) := rfl
theorem e_rngT {cf : Fn} {es : CEs} : sm cf (.rngT es) = .of (rngV (fun ds => .sh (.tup ds)) (sms cf es)) := rfl
theorem e_call {cf : Fn} {f : Str} {as : CAs} : sm cf (.call f as) = .of fun ρ => (evA (smA cf as) ρ).bd fun xs ρ1 => called cf f xs ρ1 := rfl
theorem e_call0 {cf : Fn} {f : Str} : sm cf (.call0 f) = .of fun ρ => called cf f [] ρ := rfl
theorem e_callV {cf : Fn} {i : Nat} {fs : List Str} {as : CAs} : sm cf (.callV i fs as) = .of (callVV cf i fs (smA cf as)) := rfl
theorem e_dget {cf : Fn} {a k d : CE} : sm cf (.dget a k d) = .of (dgetV (sm cf a) (sm cf k) (sm cf d)) := rfl
theorem e_lc2 {cf : Fn} {tg tg1 : CT} {it it1 : CI} {e : CE} : sm cf (.lc2 tg it tg1 it1 e) = .of (lc2W cf tg it tg1 it1 e) := rfl
theorem e_lc {cf : Fn} {tg : CT} {it : CI} {ifs : CEs} {e : CE} : sm cf (.lc tg it ifs e) = .of (lcW cf tg it ifs e) := rfl
theorem d_asg {cf : Fn} {i : Nat} {e : CE} : ss cf (.asg i e) = asgV i (sm cf e) := rfl
theorem d_asgT {cf : Fn} {is : List Nat} {e : CE} : ss cf (.asgT is e) = asgTV is (sm cf e) := rfl
theorem d_par {cf : Fn} {is : List Nat} {es : CEs} : ss cf (.par is es) = parV is (sms cf es) := rfl
theorem d_seti {cf : Fn} {i : Nat} {k : CE} {e : CE} : ss cf (.seti i k e) = setiV i (sm cf k) (sm cf e) := rfl
theorem d_app {cf : Fn} {i : Nat} {e : CE} : ss cf (.app i e) = appV i (sm cf e) := rfl
theorem d_ext {cf : Fn} {i : Nat} {e : CE} : ss cf (.ext i e) = extV i (sm cf e) := rfl
theorem d_exp {cf : Fn} {e : CE} : ss cf (.exp e) = fun ρ => ((sm cf e).v ρ).bd fun _ ρ1 => .ok .nx ρ1 := rfl
theorem d_ifs {cf : Fn} {c : CE} {a : CSs} {b : CSs} : ss cf (.ifs c a b) = fun ρ => ((sm cf c).t ρ).bd fun t ρ1 => if t = true then sss cf a ρ1 else sss cf b ρ1 := rfl
theorem d_fors {cf : Fn} {tg : CT} {it : CI} {body : CSs} : ss cf (.fors tg it body) = fun ρ => (smI cf it ρ).bd fun xs ρ1 => forW cf tg body xs ρ1 := rfl
theorem d_ret {cf : Fn} {e : CE} : ss cf (.ret e) = fun ρ => ((sm cf e).r ρ).bd fun r ρ1 => .ok (.rt r) ρ1 := rfl
theorem d_retN {cf : Fn}  : ss cf (.retN ) = fun ρ => .ok (.rt (.sh .non)) ρ := rfl
theorem d_pass {cf : Fn}  : ss cf (.pass ) = fun ρ => .ok .nx ρ := rfl
theorem d_brk {cf : Fn}  : ss cf (.brk ) = fun ρ => .ok .bk ρ := rfl
theorem d_cnt {cf : Fn}  : ss cf (.cnt ) = fun ρ => .ok .ct ρ := rfl
theorem d_nil {cf : Fn} {ρ : Rho} : sss cf .nil ρ = .ok .nx ρ := rfl
theorem d_cons {cf : Fn} {s : CS} {r : CSs} {ρ : Rho} : sss cf (.cons s r) ρ = (ss cf s ρ).bd fun o ρ1 => match o with
    | .nx => sss cf r ρ1
    | o => .ok o ρ1 := rfl
/-- a comprehension over any items -/
theorem lcW_items {cf : Fn} {tg : CT} {it : CI} {e : CE} {ρ ρ1 ρw ρ' : Rho} {xs : List D} (f : D → D) (h1 : smI cf it ρ = .ok xs ρ1) (h2 : noOwn ρ1 tg.ix = true) (h3 : wipeR ρ1 tg.ix = ρw) (turn : ∀ x ∈ xs, lcTurn tg [] (sm cf e) x ρw = .ok (some (f x)) ρw) (hn : xs.length ≤ 1000000)
    (h4 : backR ρ1 ρw tg.ix = ρ') : lcW cf tg it .nil e ρ = .ok (.fr (.lst (xs.map f))) ρ' := by
  unfold lcW lcV
  rw [h1]
  show (if noOwn ρ1 tg.ix = true then _ else _) = _
  rw [if_pos h2]
  show (match lcRun (lcTurn tg [] (sm cf e)) xs (wipeR ρ1 tg.ix) with
      | .ok ds ρ5 => if ds.length < sizeL then (Re.ok (Rs.fr (D.lst ds)) (backR ρ1 ρ5 tg.ix) : Re Rs) else Re.st
      | _ => Re.st) = _
  rw [h3, lcRun_map f turn]
  show (if (xs.map f).length < sizeL then Re.ok (Rs.fr (D.lst (xs.map f))) (backR ρ1 ρw tg.ix) else Re.st) = _
  rw [if_pos (by rw [List.length_map]; show _ < 16777216; omega), h4]
/-- a loop, by what holds at each turn -/
theorem forW_inv {cf : Fn} {tg : CT} {body : CSs} {xs : List D} {ρ : Rho} (I : Nat → Rho → Prop) (h0 : I 0 ρ) (hs : ∀ i x ρ, xs[i]? = some x → I i ρ → ∃ ρ', forTurn tg (sss cf body) x ρ = .ok .nx ρ' ∧ I (i + 1) ρ') :
    ∃ ρ', forW cf tg body xs ρ = .ok .nx ρ' ∧ I xs.length ρ' := by
  obtain ⟨ρ', e, h⟩ := forRun_inv I (n := 0) h0 fun i x ρ hx hi => by
    rw [Nat.zero_add] at hi ⊢
    exact hs i x ρ hx hi
  rw [Nat.zero_add] at h
  exact ⟨ρ', e, h⟩
theorem toNat_nat (n : Nat) : Int.toNat (n : Int) = n := rfl
end Wr
namespace Wr
open PySem PySem.Spec L2
theorem toInts_map {α : Type} (h : α → Int) : ∀ l : List α, toInts (l.map fun k => D.int (h k)) = some (l.map h)
  | [] => rfl
  | a :: l => by
    show (toInts (l.map fun k => D.int (h k))).map (h a :: ·) = _
    rw [toInts_map h l]
    rfl
theorem sum_cast {α : Type} (h : α → Nat) : ∀ l : List α, (l.map fun k => ((h k : Nat) : Int)).sum = ((l.map h).sum : Nat)
  | [] => rfl
  | a :: l => by
    rw [List.map_cons, List.sum_cons, sum_cast h l, List.map_cons, List.sum_cons]
    omega
theorem f_sum {α : Type} (h : α → Nat) (l : List α) : biF .sum [.lst (l.map fun k => D.int ((h k : Nat) : Int))] = some (.sh (.int (((l.map h).sum : Nat) : Int))) := by
  show (toInts (l.map fun k => D.int ((h k : Nat) : Int))).map (fun ns => Rs.sh (D.int ns.sum)) = _
  rw [toInts_map (fun k => ((h k : Nat) : Int)) l]
  show some (Rs.sh (D.int (l.map fun k => ((h k : Nat) : Int)).sum)) = _
  rw [sum_cast]
theorem k_rng1 {n : Int} {ρ : Rho} (h : rngOk 0 n = true) : rngK [.int n] ρ = .ok (rngD 0 n) ρ := by
  show (if rngOk 0 n = true then _ else _) = _
  rw [if_pos h]
theorem k_rng2 {a n : Int} {ρ : Rho} (h : rngOk a n = true) : rngK [.int a, .int n] ρ = .ok (rngD a n) ρ := by
  show (if rngOk a n = true then _ else _) = _
  rw [if_pos h]
theorem i_rng {cf : Fn} {es : CEs} : smI cf (.rng es) = rngI (sms cf es) := rfl
theorem i_ex {cf : Fn} {e : CE} : smI cf (.ex e) = fun ρ => ((sm cf e).v ρ).bd fun r ρ1 => .of (itemsD r.d) ρ1 := rfl
theorem shape_small {w i m : Nat} (h : w * i ≤ m) (hi : 1 ≤ i) : w ≤ m := Nat.le_trans (Nat.le_mul_of_pos_right w hi) h
/-- a slot that may be bound anew as a shared one -/
def fre (s : Sl) : Prop := s = .no ∨ ∃ d, s = .sh d
/-- .. or holds an own object -/
def frw (s : Sl) : Prop := fre s ∨ ∃ d, s = .ow d
theorem one_pow (k : Nat) : (1 : Int) * 2 ^ k = ((2 ^ k : Nat) : Int) := by rw [Int.one_mul, Int.natCast_pow]; rfl
theorem shl_one {k : Nat} (h : k ≤ 1000) : shlOk 1 (k : Int) = true := shlOk_of (show In 1 (1 : Int) from .num (by decide)) (by omega) (by omega)
theorem mul_kw {k w : Nat} (hk : k ≤ 100) (hw : w ≤ 100) : mulOk (k : Int) (w : Int) = true := mulOk_of (show In 7 (k : Int) from .of (by omega) (by omega)) (show In 7 (w : Int) from .of (by omega) (by omega))
theorem c_eqI {a b : Int} : cmpop .Eq (.int a) (.int b) = some (decide (a = b)) := by
  show eqD (.int a) (.int b) = _
  unfold eqD
  show (if SeqAt.shaped (.int a) = true ∧ SeqAt.shaped (.int b) = true then some (PyData.eqv (.int a) (.int b)) else none) = _
  rw [if_pos ⟨rfl, rfl⟩]
  show some (a == b) = _
  congr 1
theorem c_neI {a b : Int} : cmpop .NotEq (.int a) (.int b) = some (!decide (a = b)) := by
  have h := c_eqI (a := a) (b := b)
  show (eqD (.int a) (.int b)).map not = _
  rw [show eqD (.int a) (.int b) = some (decide (a = b)) from h]
  rfl
theorem and_one {x : Int} (h : 0 ≤ x) : Builtin.bitAnd x 1 = x % 2 := by
  have e := Bits.bitAnd_mask 1 h
  exact e
theorem filterMap_if {α β : Type} (c : α → Bool) (g : α → β) : ∀ l : List α, l.filterMap (fun a => if c a = true then some (g a) else none) = (l.filter c).map g
  | [] => rfl
  | a :: l => by
    have ih := filterMap_if c g l
    cases h : c a with
    | true => rw [List.filterMap_cons_some (by rw [h]; rfl), ih, List.filter_cons_of_pos (by rw [h]), List.map_cons]
    | false => rw [List.filterMap_cons_none (by rw [h]; rfl), ih, List.filter_cons_of_neg (by rw [h]; decide)]
theorem sum_le {α : Type} (h : α → Nat) (c : Nat) : ∀ l : List α, (∀ a ∈ l, h a ≤ c) → (l.map h).sum ≤ c * l.length
  | [], _ => Nat.le_refl _
  | a :: l, q => by
    have ih := sum_le h c l fun b hb => q b (List.mem_cons_of_mem _ hb)
    have h1 := q a List.mem_cons_self
    rw [List.map_cons, List.sum_cons, List.length_cons, Nat.mul_succ]
    omega
def natsD (l : List Nat) : List D := l.map fun k => D.int ((k : Nat) : Int)
theorem rngD_nats (n : Nat) : rngD 0 (n : Int) = natsD (List.range n) := rngD_nat n
theorem lcW_nats {cf : Fn} {j : Nat} {it : CI} {e : CE} {ρ ρ1 ρw ρ' : Rho} {l : List Nat} (f : Nat → D) (h1 : smI cf it ρ = .ok (natsD l) ρ1) (h2 : noOwn ρ1 [j] = true) (h3 : wipeR ρ1 [j] = ρw) (turn : ∀ k ∈ l, lcTurn (.nm j) [] (sm cf e) (.int (k : Nat)) ρw = .ok (some (f k)) ρw) (hn : l.length ≤ 1000000)
    (h4 : backR ρ1 ρw [j] = ρ') : lcW cf (.nm j) it .nil e ρ = .ok (.fr (.lst (l.map f))) ρ' := by
  have key : lcRun (lcTurn (.nm j) [] (sm cf e)) (natsD l) ρw = .ok (l.map f) ρw := by
    clear h1 hn
    induction l with
    | nil => rfl
    | cons k l ih =>
      have t := turn k List.mem_cons_self
      have ih := ih fun m hm => turn m (List.mem_cons_of_mem _ hm)
      unfold natsD at ih ⊢
      simp only [List.map_cons, lcRun, t, ih]
      rfl
  unfold lcW lcV
  rw [h1]
  show (if noOwn ρ1 [j] = true then _ else _) = _
  rw [if_pos h2]
  show (match lcRun (lcTurn (.nm j) [] (sm cf e)) (natsD l) (wipeR ρ1 [j]) with
      | .ok ds ρ5 => if ds.length < sizeL then (Re.ok (Rs.fr (D.lst ds)) (backR ρ1 ρ5 [j]) : Re Rs) else Re.st
      | _ => Re.st) = _
  rw [h3, key]
  show (if (l.map f).length < sizeL then Re.ok (Rs.fr (D.lst (l.map f))) (backR ρ1 ρw [j]) else Re.st) = _
  rw [if_pos (by rw [List.length_map]; show l.length < 16777216; omega), h4]
theorem lcW_natsIf {cf : Fn} {j : Nat} {it : CI} {c e : CE} {ρ ρ1 ρw ρ' : Rho} {l : List Nat} (p : Nat → Bool) (f : Nat → D) (h1 : smI cf it ρ = .ok (natsD l) ρ1) (h2 : noOwn ρ1 [j] = true) (h3 : wipeR ρ1 [j] = ρw)
    (turn : ∀ k ∈ l, lcTurn (.nm j) [sm cf c] (sm cf e) (.int (k : Nat)) ρw = .ok (if p k = true then some (f k) else none) ρw) (hn : l.length ≤ 1000000) (h4 : backR ρ1 ρw [j] = ρ') : lcW cf (.nm j) it (.cons c .nil) e ρ = .ok (.fr (.lst ((l.filter p).map f))) ρ' := by
  have key : lcRun (lcTurn (.nm j) [sm cf c] (sm cf e)) (natsD l) ρw = .ok ((l.filter p).map f) ρw := by
    rw [← filterMap_if]
    clear h1 hn
    induction l with
    | nil => rfl
    | cons k l ih =>
      have t := turn k List.mem_cons_self
      have ih := ih fun m hm => turn m (List.mem_cons_of_mem _ hm)
      unfold natsD at ih ⊢
      simp only [List.map_cons, lcRun, t, ih]
      cases q : p k with
      | false => rw [List.filterMap_cons_none (by rw [q]; rfl)]; rfl
      | true => rw [List.filterMap_cons_some (by rw [q]; rfl)]; rfl
  have hlen := List.length_filter_le p l
  unfold lcW lcV
  rw [h1]
  show (if noOwn ρ1 [j] = true then _ else _) = _
  rw [if_pos h2]
  show (match lcRun (lcTurn (.nm j) [sm cf c] (sm cf e)) (natsD l) (wipeR ρ1 [j]) with
      | .ok ds ρ5 => if ds.length < sizeL then (Re.ok (Rs.fr (D.lst ds)) (backR ρ1 ρ5 [j]) : Re Rs) else Re.st
      | _ => Re.st) = _
  rw [h3, key]
  show (if ((l.filter p).map f).length < sizeL then Re.ok (Rs.fr (D.lst ((l.filter p).map f))) (backR ρ1 ρw [j]) else Re.st) = _
  rw [if_pos (by rw [List.length_map]; show _ < 16777216; omega), h4]
end Wr
namespace Wr
open PySem PySem.Spec L2
def topIt : CI := .rng (.cons (.bi .max2 (.cons (.int 1) (.cons (.bi .min2 (.cons (.int 3) (.cons (.bi .len (.cons (.var 0) .nil)) .nil))) .nil))) .nil)
def topBody (body : CSs) : CSs := .cons (.fors (.nm 1) topIt body) (.cons (.ret (.bl true)) .nil)
/-- for k in range(max(1, min(3, len(script)))): .., return True -/
theorem top_loop {cf : Fn} {body : CSs} {ns : List Int} {tl0 : Rho} (J : Rho → Prop) (h0 : J tl0)
    (step : ∀ (k : Nat) (s1 : Sl) (tl : Rho), k ≤ 63 → fre s1 → J tl → ∃ tl', J tl' ∧ Wr.forTurn (.nm 1) (sss cf body) (.int k) (.sh (.lst (ns.map D.int)) :: s1 :: tl) = .ok .nx (.sh (.lst (ns.map D.int)) :: .sh (.int k) :: tl')) :
    ∃ s1 tl, sss cf (topBody body) (.sh (.lst (ns.map D.int)) :: .no :: tl0) = .ok (.rt (.sh (.bl true))) (.sh (.lst (ns.map D.int)) :: s1 :: tl) := by
  obtain ⟨m, hm, em⟩ : ∃ m : Nat, m ≤ 3 ∧ (if (if (ns.length : Int) < 3 then (ns.length : Int) else 3) > 1 then (if (ns.length : Int) < 3 then (ns.length : Int) else 3) else 1) = (m : Int) := by
    refine ⟨((if (if (ns.length : Int) < 3 then (ns.length : Int) else 3) > 1 then (if (ns.length : Int) < 3 then (ns.length : Int) else 3) else 1) : Int).toNat, ?_, ?_⟩
    · split <;> split <;> omega
    · rw [Int.toNat_of_nonneg]
      split <;> split <;> omega
  have r1 := rngOk_nat (n := m) (by omega)
  obtain ⟨ρ', e, s1, tl, g1, g2, rfl⟩ := forW_inv (cf := cf) (tg := .nm 1) (body := body) (xs := rngD 0 (m : Int)) (ρ := .sh (.lst (ns.map D.int)) :: .no :: tl0)
    (fun n ρ => ∃ s1 tl, fre s1 ∧ J tl ∧ ρ = .sh (.lst (ns.map D.int)) :: s1 :: tl) ⟨.no, tl0, .inl rfl, h0, rfl⟩ (fun n y ρ hy ⟨s1, tl, h1, h2, e⟩ => by
      subst e
      rw [rngD_nat] at hy
      obtain ⟨x, hx, rfl⟩ := List.mem_map.mp (List.mem_of_getElem? hy)
      have hx := List.mem_range.mp hx
      obtain ⟨tl', g, e⟩ := step x s1 tl (by omega) h1 h2
      exact ⟨_, e, _, tl', .inr ⟨_, rfl⟩, g, rfl⟩)
  refine ⟨s1, tl, ?_⟩
  simp only [topBody, topIt, d_fors, d_ret, i_rng, runD, List.length_cons, List.length_nil, d_nil, d_cons, e_var, e_int, e_bl, e_non, e_str, e_fnc, e_bin, e_neg, e_inv, e_cmp, e_chn, e_bop, e_nt, e_ite, e_tup, e_tupS, evSt, e_lst, e_dct, e_dctT, e_popL, d_setd, d_asgL, e_gd, e_spl, e_ptn, e_ix, e_sl, e_bi, e_isi, e_rngL, e_rngT, e_call, e_call0, e_callV, e_dget, e_lc2, e_lc, d_asg, d_asgT, d_par, d_seti, d_app, d_ext, d_exp, d_ifs, d_fors, d_ret, d_retN, d_pass, d_brk, d_cnt, sms, smA, smO, smI, Sm.of, Sm.vt, smVar, rdVar, op1, op2, Re.bd, Re.of, Pl.at, slD?, truD, Rs.d, asgV, setRs, biV, evBs, plAll, evEs, evOp, evA, evTo, evO, evTs, List.cons_append, List.nil_append, List.append_nil, List.replicate, List.getElem?_cons_zero, List.getElem?_cons_succ, List.set_cons_zero, List.set_cons_succ, Option.bind_some, Option.map_some, b_add, b_sub, c_lt, c_le, c_gt, c_ge, f_abs, f_int, f_lenL, f_lenT, decide_true, decide_false, if_true, if_false, Bool.false_eq_true, ite_dec, rngI, rngV, lcV, noOwn, CT.ix, List.all_cons, List.all_nil, Bool.and_true, Sl.own, Bool.not_false, wipeR, backR, bindT, setSh, setShs, asgTV, asgLV, called, lend, lent, home, List.take_succ_cons, List.take_zero, List.nodup_nil, List.nodup_cons, List.not_mem_nil, not_false_eq_true, and_self, itemsD, seqOf, Option.toList, enuI, Nat.reduceSub, Nat.reduceAdd, Nat.reduceEqDiff, List.length_map, f_min, f_max, em, k_rng1 r1, e]
theorem law_of {cf : Fn} {c : CDef} {body : CSs} {ns : List Int} {tl0 : Rho} (hb : c.body = topBody body) (hn : c.np = 1) (hs : List.replicate (c.ns - c.np) Sl.no = .no :: tl0) (J : Rho → Prop) (h0 : J tl0)
    (step : ∀ (k : Nat) (s1 : Sl) (tl : Rho), k ≤ 63 → fre s1 → J tl → ∃ tl', J tl' ∧ Wr.forTurn (.nm 1) (sss cf body) (.int k) (.sh (.lst (ns.map D.int)) :: s1 :: tl) = .ok .nx (.sh (.lst (ns.map D.int)) :: .sh (.int k) :: tl')) :
    ∃ back, runD cf c [.sh (.lst (ns.map D.int))] = .ok (.sh (.bl true)) back := by
  obtain ⟨s1, tl, e⟩ := top_loop J h0 step
  refine ⟨(.sh (.lst (ns.map D.int)) :: s1 :: tl).take c.np, ?_⟩
  unfold runD
  rw [if_pos (show [Sl.sh (D.lst (ns.map D.int))].length = c.np from hn.symm), hb, hs]
  show (match sss cf (topBody body) (.sh (.lst (ns.map D.int)) :: .no :: tl0) with
    | .ok (.rt r) ρ => CR.ok r (ρ.take c.np)
    | .ok .nx ρ => .ok (.sh .non) (ρ.take c.np)
    | .ex x ρ => .ex x (ρ.take c.np)
    | _ => .st) = _
  rw [e]
end Wr
namespace Wr
/-- the sum modulo 2 -/
def par : List Bool → Bool
  | [] => false
  | b :: bs => xor b (par bs)
end Wr
namespace Wr
open PySem PySem.Spec L2
theorem bit_of {x b : Nat} : decide (((x / 2 ^ b % 2 : Nat) : Int) = 1) = x.testBit b := by
  rw [Nat.testBit_eq_decide_div_mod_eq]
  exact decide_eq_decide.mpr (by omega)
/-- a comprehension whose turns change what is lent -/
theorem lcRun_inv {step : D → Rho → Re (Option D)} (I : Nat → Rho → Prop) (P : D → D → Prop) : ∀ {xs : List D} {ρ : Rho} {n : Nat}, I n ρ → (∀ i x ρ, xs[i]? = some x → I (n + i) ρ → ∃ y ρ', step x ρ = .ok (some y) ρ' ∧ P x y ∧ I (n + i + 1) ρ') →
    ∃ ys ρ', lcRun step xs ρ = .ok ys ρ' ∧ Paired P xs ys ∧ I (n + xs.length) ρ'
  | [], ρ, n, h, _ => ⟨[], ρ, rfl, .nil, h⟩
  | x :: xs, ρ, n, h, hs => by
    obtain ⟨y, ρ1, e1, p1, h1⟩ := hs 0 x ρ rfl h
    obtain ⟨ys, ρ2, e2, p2, h2⟩ := lcRun_inv I P (xs := xs) (n := n + 1) h1 fun i z ρ' hz hi => by
      have := hs (i + 1) z ρ' (by simpa using hz) (by rw [show n + (i + 1) = n + 1 + i by omega]; exact hi)
      rwa [show n + (i + 1) + 1 = n + 1 + i + 1 by omega] at this
    refine ⟨y :: ys, ρ2, ?_, .cons p1 p2, by rw [List.length_cons, show n + (xs.length + 1) = n + 1 + xs.length by omega]; exact h2⟩
    unfold lcRun
    rw [e1]
    show (match lcRun step xs ρ1 with
      | .ok ds ρ2 => (Re.ok ((some y).toList ++ ds) ρ2 : Re (List D))
      | _ => Re.st) = _
    rw [e2]
    rfl
theorem paired_len {α β : Type} {P : α → β → Prop} : ∀ {xs : List α} {ys : List β}, Paired P xs ys → xs.length = ys.length
  | _, _, .nil => rfl
  | _, _, .cons _ h => by rw [List.length_cons, List.length_cons, paired_len h]
theorem lcW_inv {cf : Fn} {tg : CT} {it : CI} {e : CE} {ρ ρ1 : Rho} {xs : List D} (I : Nat → Rho → Prop) (P : D → D → Prop) (h1 : smI cf it ρ = .ok xs ρ1) (h2 : noOwn ρ1 tg.ix = true) (h0 : I 0 (wipeR ρ1 tg.ix))
    (turn : ∀ i x ρ, xs[i]? = some x → I i ρ → ∃ y ρ', lcTurn tg [] (sm cf e) x ρ = .ok (some y) ρ' ∧ P x y ∧ I (i + 1) ρ') (hn : xs.length ≤ 1000000) :
    ∃ ys ρ', lcW cf tg it .nil e ρ = .ok (.fr (.lst ys)) (backR ρ1 ρ' tg.ix) ∧ Paired P xs ys ∧ I xs.length ρ' := by
  obtain ⟨ys, ρ', er, pr, hi⟩ := lcRun_inv I P (n := 0) h0 fun i x ρ hx hi => by
    rw [Nat.zero_add] at hi ⊢
    exact turn i x ρ hx hi
  rw [Nat.zero_add] at hi
  refine ⟨ys, ρ', ?_, pr, hi⟩
  unfold lcW lcV
  rw [h1]
  show (if noOwn ρ1 tg.ix = true then _ else _) = _
  rw [if_pos h2]
  show (match lcRun (lcTurn tg [] (sm cf e)) xs (wipeR ρ1 tg.ix) with
      | .ok ds ρ5 => if ds.length < sizeL then (Re.ok (Rs.fr (D.lst ds)) (backR ρ1 ρ5 tg.ix) : Re Rs) else Re.st
      | _ => Re.st) = _
  rw [er]
  show (if ys.length < sizeL then Re.ok (Rs.fr (D.lst ys)) (backR ρ1 ρ' tg.ix) else Re.st) = _
  rw [if_pos (by rw [← paired_len pr]; show _ < 16777216; omega)]
end Wr
namespace Wr
open PySem PySem.Spec L2
theorem and_nat {a b : Nat} : Builtin.bitAnd (a : Int) (b : Int) = ((a &&& b : Nat) : Int) := rfl
end Wr
namespace Wr
open PySem PySem.Spec L2
theorem c_in {a b : D} : cmpop .In a b = inD a b := by cases a <;> cases b <;> rfl
theorem c_notIn {a b : D} : cmpop .NotIn a b = (inD a b).map not := by cases a <;> cases b <;> rfl
theorem n_lst {d : D} {xs : List D} : inD d (.lst xs) = if flatD d = true ∧ xs.all flatD = true then some (xs.any fun y => eqF y d) else inN d xs := by cases d <;> rfl
theorem xt0 {a : D} {xs : List D} : ixD (.tup (a :: xs)) (.int 0) = some a := x_tup0
theorem xt1 {a b : D} {xs : List D} : ixD (.tup (a :: b :: xs)) (.int 1) = some b := x_tup1
theorem xt2 {a b c : D} {xs : List D} : ixD (.tup (a :: b :: c :: xs)) (.int 2) = some c := x_tup (k := 2) rfl
theorem xl0 {a : D} {xs : List D} : ixD (.lst (a :: xs)) (.int 0) = some a := x_lst (k := 0) rfl
/-- lists of numbers, compared -/
theorem pys_ints : ∀ ns : List Int, toPys (ns.map D.int) = some (ns.map PyData.int)
  | [] => rfl
  | n :: r => by simp only [List.map_cons, toPys, toPy, pys_ints r]
theorem lay_ints : ∀ ns : List Int, PyData.canLayAll0 (ns.map PyData.int) = true
  | [] => by simp only [List.map_nil, PyData.canLayAll0]
  | n :: r => by simp only [List.map_cons, PyData.canLayAll0, PyData.canLay0, lay_ints r, Bool.and_self]
theorem dep_ints : ∀ ns : List Int, PyData.depthAll (ns.map PyData.int) = 0
  | [] => by simp only [List.map_nil, PyData.depthAll]
  | n :: r => by simp only [List.map_cons, PyData.depthAll, PyData.depth, dep_ints r, Nat.max_self]
end Wr
namespace Wr
open PySem PySem.Spec L2
/-- the table holds that core under that name -/
class Df (Δ : Str → Option CDef) (x : Str) (c : outParam CDef) : Prop where
  ok : Δ x = some c
theorem df {Δ : Str → Option CDef} (x : Str) {c : CDef} [h : Df Δ x c] (n : Nat) (args : List Sl) : fnN Δ (n + 1) x args = runD (fnN Δ n) c args := by
  show (match Δ x with | some c => runD (fnN Δ n) c args | none => _) = _
  rw [h.ok]
end Wr
namespace Wr.Cd
open PySem PySem.Spec L2 Wr
def c__law_pot : CDef := { np := 2, ns := 4, body :=
    (.cons (.asg 2 (.bin .Add (.bin .Mult (.int 19) (.var 1)) (.int 4)))
    (.cons (.ifs (.cmp .Lt (.var 1) (.bi .len (.cons (.var 0) .nil)))
    (.cons (.asg 2 (.ix (.var 0) (.var 1)))
    .nil)
    .nil)
    (.cons (.asg 3 (.bin .Mult (.bin .Mod (.bi .abs (.cons (.var 2) .nil)) (.bin .Pow (.bin .Pow (.int 10) (.int 60)) (.int 5))) (.bi .int1 (.cons (.cmp .GtE (.bi .abs (.cons (.var 2) .nil)) (.bin .Pow (.int 10) (.int 18))) .nil))))
    (.cons (.ret (.lst (.cons (.var 3) (.cons (.bin .Mod (.bin .Add (.bin .Add (.bin .Mult (.bin .Mod (.var 2) (.int 2305843009213693951)) (.int 68777)) (.bin .Mult (.bin .Mult (.int 5003) (.var 1)) (.var 1))) (.int 29)) (.int 2305843009213693907)) (.cons (.int 0) .nil)))))
    .nil)))) }
def c__law_take : CDef := { np := 2, ns := 4, body :=
    (.cons (.ifs (.cmp .Gt (.ix (.var 0) (.int 0)) (.int 0))
    (.cons (.asg 3 (.bin .Mod (.ix (.var 0) (.int 0)) (.var 1)))
    (.cons (.seti 0 (.int 0) (.bin .FloorDiv (.ix (.var 0) (.int 0)) (.var 1)))
    (.cons (.ret (.var 3))
    .nil)))
    .nil)
    (.cons (.seti 0 (.int 2) (.bin .Add (.ix (.var 0) (.int 2)) (.int 1)))
    (.cons (.asg 2 (.bin .Mod (.bin .Mult (.bin .Add (.bin .Add (.ix (.var 0) (.int 1)) (.bin .Mult (.bin .Mult (.int 30011) (.ix (.var 0) (.int 2))) (.ix (.var 0) (.int 2)))) (.int 19)) (.int 72019)) (.int 2305843009213693921)))
    (.cons (.asg 2 (.bin .Mod (.bin .Mult (.var 2) (.bin .Add (.bin .Add (.bin .Mod (.var 2) (.int 1000099)) (.bin .Mult (.int 40009) (.ix (.var 0) (.int 2)))) (.int 11))) (.int 2305843009213693951)))
    (.cons (.ret (.bin .Mod (.bin .Add (.bin .FloorDiv (.var 2) (.int 109)) (.bin .FloorDiv (.var 2) (.int 999979))) (.var 1)))
    .nil))))) }
def c__law_shape : CDef := { np := 2, ns := 3, body :=
    (.cons (.asg 2 (.bin .Add (.int 1) (.call "_law_take" (.io 0 (.ex (.var 1) .nil)))))
    (.cons (.ret (.tup (.cons (.var 2) (.cons (.bin .Add (.int 1) (.call "_law_take" (.io 0 (.ex (.bi .min2 (.cons (.int 4) (.cons (.bin .FloorDiv (.var 1) (.var 2)) .nil))) .nil)))) .nil))))
    .nil)) }
def c__law_numbers : CDef := { np := 1, ns := 1, body :=
    (.cons (.ret (.rngL (.cons (.bin .LShift (.int 1) (.bin .Mult (.ix (.var 0) (.int 0)) (.ix (.var 0) (.int 1)))) .nil)))
    .nil) }
def c_is_integer : CDef := { np := 1, ns := 1, body :=
    (.cons (.ret (.bop true (.cons (.isi .int (.var 0)) (.cons (.nt (.isi .bl (.var 0))) .nil))))
    .nil) }
def c_input_bits : CDef := { np := 1, ns := 3, body :=
    (.cons (.asgT [1, 2] (.var 0))
    (.cons (.ret (.bin .Mult (.var 1) (.var 2)))
    .nil)) }
def c_bits_of : CDef := { np := 2, ns := 3, body :=
    (.cons (.ret (.lc (.nm 2) (.rng (.cons (.call "input_bits" (.ex (.var 0) .nil)) .nil)) (.cons (.cmp .Eq (.bin .BitAnd (.bin .RShift (.var 1) (.var 2)) (.int 1)) (.int 1)) .nil) (.var 2)))
    .nil) }
def c_places_of : CDef := { np := 2, ns := 4, body :=
    (.cons (.asg 2 (.ix (.var 0) (.int 0)))
    (.cons (.ret (.lc (.nm 3) (.ex (.call "bits_of" (.ex (.var 0) (.ex (.var 1) .nil)))) .nil (.bin .Mod (.var 3) (.var 2))))
    .nil)) }
def c_weight : CDef := { np := 2, ns := 3, body :=
    (.cons (.ret (.bi .sum (.cons (.lc (.nm 2) (.ex (.call "places_of" (.ex (.var 0) (.ex (.var 1) .nil)))) .nil (.bin .LShift (.int 1) (.var 2))) .nil)))
    .nil) }
def c__law_places : CDef := { np := 2, ns := 3, body :=
    (.cons (.ret (.lc (.nm 2) (.rng (.cons (.bin .Mult (.ix (.var 0) (.int 0)) (.ix (.var 0) (.int 1))) .nil)) (.cons (.cmp .Eq (.bin .Mod (.bin .FloorDiv (.var 1) (.bin .LShift (.int 1) (.var 2))) (.int 2)) (.int 1)) .nil) (.bin .Mod (.var 2) (.ix (.var 0) (.int 0)))))
    .nil) }
def c_least_place : CDef := { np := 2, ns := 3, body :=
    (.cons (.asg 2 (.int 0))
    (.cons (.whl 1000000 (.cmp .Gt (.call "weight" (.ex (.var 0) (.ex (.var 1) .nil))) (.bin .LShift (.int 1) (.var 2)))
    (.cons (.aug 2 (.int 1))
    .nil))
    (.cons (.ret (.var 2))
    .nil))) }
def c__law_burden : CDef := { np := 2, ns := 3, body :=
    (.cons (.ret (.bi .sum (.cons (.lc (.nm 2) (.ex (.call "_law_places" (.ex (.var 0) (.ex (.var 1) .nil)))) .nil (.bin .LShift (.int 1) (.var 2))) .nil)))
    .nil) }
def c__law_low : CDef := { np := 2, ns := 3, body :=
    (.cons (.asg 2 (.int 0))
    (.cons (.whl 1000000 (.cmp .Lt (.bin .LShift (.int 1) (.var 2)) (.call "_law_burden" (.ex (.var 0) (.ex (.var 1) .nil))))
    (.cons (.asg 2 (.bin .Add (.var 2) (.int 1)))
    .nil))
    (.cons (.ret (.var 2))
    .nil))) }
def c_bits_at : CDef := { np := 3, ns := 4, body :=
    (.cons (.ret (.lc (.nm 3) (.ex (.call "bits_of" (.ex (.var 0) (.ex (.var 1) .nil)))) (.cons (.cmp .Eq (.bin .Mod (.var 3) (.ix (.var 0) (.int 0))) (.var 2)) .nil) (.var 3)))
    .nil) }
def c_merged : CDef := { np := 1, ns := 3, body :=
    (.cons (.asg 1 (.lc (.nm 2) (.rng3 (.cons (.int 0) (.cons (.bin .Sub (.bi .len (.cons (.var 0) .nil)) (.int 1)) (.cons (.int 2) .nil)))) .nil (.tup (.cons (.str "join") (.cons (.ix (.var 0) (.var 2)) (.cons (.ix (.var 0) (.bin .Add (.var 2) (.int 1))) .nil))))))
    (.cons (.ifs (.cmp .Eq (.bin .BitAnd (.bi .len (.cons (.var 0) .nil)) (.int 1)) (.int 1))
    (.cons (.ret (.lstS (.var 1) (.cons (.tup (.cons (.str "raise") (.cons (.ix (.var 0) (.bin .Sub (.bi .len (.cons (.var 0) .nil)) (.int 1))) .nil))) .nil)))
    .nil)
    .nil)
    (.cons (.ret (.var 1))
    .nil))) }
def c_tree_for : CDef := { np := 3, ns := 6, body :=
    (.cons (.asg 3 (.call "least_place" (.ex (.var 0) (.ex (.var 1) .nil))))
    (.cons (.ifs (.cmp .Lt (.var 2) (.var 3))
    (.cons (.rse "TooLow" "value" (.var 3))
    .nil)
    .nil)
    (.cons (.asg 4 (.call "bits_at" (.ex (.var 0) (.ex (.var 1) (.ex (.int 0) .nil)))))
    (.cons (.fors (.nm 5) (.rng (.cons (.int 1) (.cons (.bin .Add (.var 2) (.int 1)) .nil)))
    (.cons (.asg 4 (.bin .Add (.call "merged" (.ex (.var 4) .nil)) (.call "bits_at" (.ex (.var 0) (.ex (.var 1) (.ex (.var 5) .nil))))))
    .nil))
    (.cons (.ret (.ix (.var 4) (.int 0)))
    .nil))))) }
def c_is_input_bit : CDef := { np := 3, ns := 3, body :=
    (.cons (.ret (.bop true (.cons (.call "is_integer" (.ex (.var 2) .nil)) (.cons (.chn .LtE .Lt (.int 0) (.var 2) (.call "input_bits" (.ex (.var 0) .nil))) (.cons (.cmp .Eq (.bin .Mod (.var 2) (.ix (.var 0) (.int 0))) (.var 1)) .nil)))))
    .nil) }
def c_parts_of : CDef := { np := 1, ns := 1, body :=
    (.cons (.ifs (.bop false (.cons (.nt (.isi .tup (.var 0))) (.cons (.cmp .Eq (.bi .len (.cons (.var 0) .nil)) (.int 0)) .nil)))
    (.cons (.ret (.tup .nil))
    .nil)
    .nil)
    (.cons (.ifs (.bop false (.cons (.bop true (.cons (.cmp .Eq (.ix (.var 0) (.int 0)) (.str "raise")) (.cons (.cmp .Eq (.bi .len (.cons (.var 0) .nil)) (.int 2)) .nil))) (.cons (.bop true (.cons (.cmp .Eq (.ix (.var 0) (.int 0)) (.str "join")) (.cons (.cmp .Eq (.bi .len (.cons (.var 0) .nil)) (.int 3)) .nil))) .nil)))
    (.cons (.ret (.sl (.var 0) (.some (.int 1)) .none))
    .nil)
    .nil)
    (.cons (.ret (.tup .nil))
    .nil))) }
def c_tree_bits : CDef := { np := 3, ns := 6, body :=
    (.cons (.ifs (.call "is_input_bit" (.ex (.var 0) (.ex (.var 1) (.ex (.var 2) .nil))))
    (.cons (.ret (.bin .LShift (.int 1) (.var 2)))
    .nil)
    .nil)
    (.cons (.asg 3 (.int 0))
    (.cons (.fors (.nm 4) (.ex (.call "parts_of" (.ex (.var 2) .nil)))
    (.cons (.asg 5 (.call "tree_bits" (.ex (.var 0) (.ex (.bin .Sub (.var 1) (.int 1)) (.ex (.var 4) .nil)))))
    (.cons (.ifs (.bop false (.cons (.cmp .Eq (.var 5) (.int 0)) (.cons (.cmp .NotEq (.bin .BitAnd (.var 5) (.var 3)) (.int 0)) .nil)))
    (.cons (.ret (.int 0))
    .nil)
    .nil)
    (.cons (.asg 3 (.bin .BitOr (.var 3) (.var 5)))
    .nil))))
    (.cons (.ret (.var 3))
    .nil)))) }
def c_shows_tree : CDef := { np := 4, ns := 4, body :=
    (.cons (.ret (.cmp .Eq (.call "tree_bits" (.ex (.var 0) (.ex (.var 2) (.ex (.var 3) .nil)))) (.var 1)))
    .nil) }
def c__law_is_whole : CDef := { np := 1, ns := 1, body :=
    (.cons (.ret (.bop true (.cons (.isi .int (.var 0)) (.cons (.nt (.isi .bl (.var 0))) .nil))))
    .nil) }
def c__law_tree_seen : CDef := { np := 2, ns := 4, body :=
    (.cons (.ifs (.call "_law_is_whole" (.ex (.var 1) .nil))
    (.cons (.ret (.ite (.chn .LtE .Lt (.int 0) (.var 1) (.bin .Mult (.ix (.var 0) (.int 0)) (.ix (.var 0) (.int 1)))) (.tup (.cons (.bin .Mod (.var 1) (.ix (.var 0) (.int 0))) (.cons (.lst (.cons (.var 1) .nil)) .nil))) .non))
    .nil)
    .nil)
    (.cons (.ifs (.bop false (.cons (.nt (.isi .tup (.var 1))) (.cons (.cmp .Eq (.var 1) (.tup .nil)) (.cons (.nt (.isi .str (.ix (.var 1) (.int 0)))) .nil))))
    (.cons (.ret .non)
    .nil)
    .nil)
    (.cons (.ifs (.cmp .NotIn (.tup (.cons (.ix (.var 1) (.int 0)) (.cons (.bi .len (.cons (.var 1) .nil)) .nil))) (.tup (.cons (.tup (.cons (.str "raise") (.cons (.int 2) .nil))) (.cons (.tup (.cons (.str "join") (.cons (.int 3) .nil))) .nil))))
    (.cons (.ret .non)
    .nil)
    .nil)
    (.cons (.asg 2 (.lc (.nm 3) (.ex (.sl (.var 1) (.some (.int 1)) .none)) .nil (.call "_law_tree_seen" (.ex (.var 0) (.ex (.var 3) .nil)))))
    (.cons (.ifs (.bop false (.cons (.cmp .In .non (.var 2)) (.cons (.cmp .Gt (.lnS (.lc (.nm 3) (.ex (.var 2)) .nil (.ix (.var 3) (.int 0)))) (.int 1)) .nil)))
    (.cons (.ret .non)
    .nil)
    .nil)
    (.cons (.ret (.tup (.cons (.bin .Add (.ix (.ix (.var 2) (.int 0)) (.int 0)) (.int 1)) (.cons (.call "_law_put_together" (.ex (.var 2) .nil)) .nil))))
    .nil)))))) }
def c__law_is_tree : CDef := { np := 4, ns := 7, body :=
    (.cons (.asg 4 (.call "_law_tree_seen" (.ex (.var 0) (.ex (.var 3) .nil))))
    (.cons (.ifs (.bop false (.cons (.cmp .Is (.var 4) .non) (.cons (.cmp .NotEq (.ix (.var 4) (.int 0)) (.var 2)) .nil)))
    (.cons (.ret (.bl false))
    .nil)
    .nil)
    (.cons (.asg 5 (.ix (.var 4) (.int 1)))
    (.cons (.ret (.bop true (.cons (.cmp .Eq (.bi .len (.cons (.var 5) .nil)) (.lnS (.var 5))) (.cons (.cmp .Eq (.bi .sum (.cons (.lc (.nm 6) (.ex (.var 5)) .nil (.bin .LShift (.int 1) (.var 6))) .nil)) (.var 1)) .nil))))
    .nil)))) }
def c__law_put_together : CDef := { np := 1, ns := 4, body :=
    (.cons (.asg 1 (.lst .nil))
    (.cons (.fors (.tp [2, 3]) (.ex (.var 0))
    (.cons (.ext 1 (.var 3))
    .nil))
    (.cons (.ret (.var 1))
    .nil))) }
def c__law_low_told : CDef := { np := 3, ns := 5, body :=
    (.cons (.asg 3 .non)
    (.cons (.tryx .exp (.call "tree_for" (.ex (.var 0) (.ex (.var 1) (.ex (.var 2) .nil)))) 3 4 "ReachError")
    (.cons (.ifs (.bop false (.cons (.isx true ["NoPlace", "NotComputed", "TooMany", "UnknownName"] (.var 3)) (.cons (.nt (.isx false ["TooLow"] (.var 3))) .nil)))
    (.cons (.ret .non)
    .nil)
    .nil)
    (.cons (.ret (.att "value" (.var 3)))
    .nil)))) }
def c__law_term_right : CDef := { np := 3, ns := 5, body :=
    (.cons (.asg 3 (.call "_law_low" (.ex (.var 0) (.ex (.var 1) .nil))))
    (.cons (.ifs (.cmp .Lt (.var 2) (.var 3))
    (.cons (.ret (.cmp .Eq (.bi .repr (.cons (.call "_law_low_told" (.ex (.var 0) (.ex (.var 1) (.ex (.var 2) .nil)))) .nil)) (.bi .repr (.cons (.var 3) .nil))))
    .nil)
    .nil)
    (.cons (.asg 4 (.call "tree_for" (.ex (.var 0) (.ex (.var 1) (.ex (.var 2) .nil)))))
    (.cons (.ret (.bop true (.cons (.call "_law_is_tree" (.ex (.var 0) (.ex (.var 1) (.ex (.var 2) (.ex (.var 4) .nil))))) (.cons (.cmp .Is (.call "shows_tree" (.ex (.var 0) (.ex (.var 1) (.ex (.var 2) (.ex (.var 4) .nil))))) (.bl true)) .nil))))
    .nil)))) }
end Wr.Cd
namespace Wr
open PySem PySem.Spec L2
/-- a slot that may be bound anew -/
def stb (s : Sl) : Prop := ∀ d, s ≠ .io d
theorem stb_sh {d : D} : stb (.sh d) := fun _ h => by cases h
theorem stb_no : stb .no := fun _ h => by cases h
theorem stb_ow {d : D} : stb (.ow d) := fun _ h => by cases h
theorem fre.stb {s : Sl} (h : fre s) : stb s := by rcases h with rfl | ⟨d, rfl⟩ <;> (intro _ z; cases z)
theorem frw.stb {s : Sl} (h : frw s) : stb s := by rcases h with h | ⟨d, rfl⟩ <;> first | exact h.stb | (intro _ z; cases z)
theorem st_z {d : D} {s : Sl} {ρ : Rho} (h : stb s) : setSh 0 d (s :: ρ) = some (.sh d :: ρ) := by
  cases s with
  | io e => exact absurd rfl (h e)
  | _ => rfl
theorem st_s {i : Nat} {d : D} {s : Sl} {ρ : Rho} : setSh (i + 1) d (s :: ρ) = (setSh i d ρ).map (s :: ·) := by
  unfold setSh
  rw [List.getElem?_cons_succ]
  cases q : ρ[i]? with
  | none => rfl
  | some t => cases t <;> rfl
def rsSl : Rs → Sl
  | .sh d => .sh d
  | .fr d => .ow d
theorem sr_z {r : Rs} {s : Sl} {ρ : Rho} (h : stb s) : setRs 0 r (s :: ρ) = some (rsSl r :: ρ) := by
  cases s with
  | io e => exact absurd rfl (h e)
  | _ => cases r <;> rfl
theorem sr_s {i : Nat} {r : Rs} {s : Sl} {ρ : Rho} : setRs (i + 1) r (s :: ρ) = (setRs i r ρ).map (s :: ·) := by
  unfold setRs
  rw [List.getElem?_cons_succ]
  cases q : ρ[i]? with
  | none => rfl
  | some t => cases t <;> cases r <;> rfl
theorem e_sls {cf : Fn} {a st : CE} {lo hi : CO} : sm cf (.sls a lo hi st) = .of (slsV (sm cf a) (smO cf lo) (smO cf hi) (sm cf st)) := rfl
theorem e_gc {cf : Fn} {x : Str} {c : GC} : sm cf (.gc x c) = .of fun ρ => .ok (.sh (gcD c)) ρ := rfl
theorem e_callK {cf : Fn} {f : Str} {n : Nat} {as : CAs} {ks : List Str} {es : CEs} {pm : List Nat} : sm cf (.callK f n as ks es pm) = .of fun ρ => (evA (smA cf as) ρ).bd fun xs ρ1 => (evEs (sms cf es) ρ1).bd fun ds ρ2 => if xs.length = n ∧ ds.length = ks.length then called cf f (permL pm (xs ++ ds.map .inl)) ρ2 else .st := rfl
theorem d_asgS {cf : Fn} {is : List Nat} {j : Nat} {e : CE} : ss cf (.asgS is j e) = asgSV is j (sm cf e) := rfl
theorem d_aug {cf : Fn} {i : Nat} {e : CE} : ss cf (.aug i e) = augV i (sm cf e) := rfl
noncomputable def whlW (cf : Fn) (n : Nat) (c : CE) (body : CSs) : Rho → Re Out := whlRun (sm cf c).t (sss cf body) n
theorem d_whl {cf : Fn} {n : Nat} {c : CE} {body : CSs} : ss cf (.whl n c body) = whlW cf n c body := rfl
/-- a while, by its turns: k true ones, then a false one -/
theorem whlW_up {cf : Fn} {c : CE} {body : CSs} (R : Nat → Rho) : ∀ (k i n : Nat), k < n → (∀ j, i ≤ j → j < i + k → (sm cf c).t (R j) = .ok true (R j) ∧ sss cf body (R j) = .ok .nx (R (j + 1))) → (sm cf c).t (R (i + k)) = .ok false (R (i + k)) → whlW cf n c body (R i) = .ok .nx (R (i + k))
  | 0, i, n + 1, _, _, h => by
    rw [Nat.add_zero] at h
    show ((sm cf c).t (R i)).bd _ = _
    rw [h]
    rfl
  | k + 1, i, n + 1, hn, h1, h2 => by
    obtain ⟨e1, e2⟩ := h1 i (Nat.le_refl _) (by omega)
    have ih := whlW_up R k (i + 1) n (by omega) (fun j hj hk => h1 j (by omega) (by omega)) (by rw [show i + 1 + k = i + (k + 1) by omega]; exact h2)
    rw [show i + 1 + k = i + (k + 1) by omega] at ih
    show ((sm cf c).t (R i)).bd _ = _
    rw [e1]
    show (if true = true then (match sss cf body (R i) with
      | .ok .nx ρ2 => whlRun (sm cf c).t (sss cf body) n ρ2
      | .ok .ct ρ2 => whlRun (sm cf c).t (sss cf body) n ρ2
      | .ok .bk ρ2 => .ok .nx ρ2
      | .ok (.rt r) ρ2 => .ok (.rt r) ρ2
      | .ex x ρ2 => .ex x ρ2
      | .st => .st) else Re.ok Out.nx (R i)) = _
    rw [if_pos rfl, e2]
    exact ih
  | k, i, 0, hn, _, _ => absurd hn (Nat.not_lt_zero _)
end Wr
namespace Wr
open PySem PySem.Spec L2
/-- a loop that keeps what holds -/
theorem forW_keep {cf : Fn} {tg : CT} {body : CSs} {xs : List D} {ρ : Rho} (P : Rho → Prop) (h0 : P ρ) (hs : ∀ x ∈ xs, ∀ ρ, P ρ → ∃ ρ', forTurn tg (sss cf body) x ρ = .ok .nx ρ' ∧ P ρ') : ∃ ρ', forW cf tg body xs ρ = .ok .nx ρ' ∧ P ρ' := by
  obtain ⟨ρ', e, h⟩ := forW_inv (cf := cf) (tg := tg) (body := body) (xs := xs) (ρ := ρ) (fun _ ρ => P ρ) h0 fun i x ρ hx hp => hs x (List.mem_of_getElem? hx) ρ hp
  exact ⟨ρ', e, h⟩
end Wr
namespace Wr
open PySem PySem.Spec L2
end Wr
namespace Wr.SpJ
open PySem PySem.Spec L2 Wr Wr.Cd
variable {Δ : Str → Option CDef}
abbrev shp (w i : Nat) : D := .tup [.int (w : Int), .int (i : Int)]
theorem bits_ok [Df Δ "input_bits" c_input_bits] (n : Nat) {w i : Nat} (hw : w ≤ 8) (hi : i ≤ 4) : fnN Δ (n + 1) "input_bits" [.sh (shp w i)] = .ok (.sh (.int ((w * i : Nat) : Int))) [.sh (shp w i)] := by
  rw [df "input_bits"]
  have m1 := mul_kw (k := w) (w := i) (by omega) (by omega)
  have e0 : ((w : Int) * (i : Int)) = ((w * i : Nat) : Int) := by rw [Int.natCast_mul]
  simp only [c_input_bits, d_asgT, d_ret, runD, List.length_cons, List.length_nil, d_nil, d_cons, e_var, e_int, e_bl, e_non, e_str, e_fnc, e_bin, e_neg, e_inv, e_cmp, e_chn, e_bop, e_nt, e_ite, e_tup, e_tupS, evSt, e_lst, e_dct, e_dctT, e_popL, d_setd, d_asgL, e_gd, e_spl, e_ptn, e_ix, e_sl, e_bi, e_isi, e_rngL, e_rngT, e_call, e_call0, e_callV, e_dget, e_lc2, e_lc, d_asg, d_asgT, d_par, d_seti, d_app, d_ext, d_exp, d_ifs, d_fors, d_ret, d_retN, d_pass, d_brk, d_cnt, sms, smA, smO, smI, Sm.of, Sm.vt, smVar, rdVar, op1, op2, Re.bd, Re.of, Pl.at, slD?, truD, Rs.d, asgV, setRs, biV, evBs, plAll, evEs, evOp, evA, evTo, evO, evTs, List.cons_append, List.nil_append, List.append_nil, List.replicate, List.getElem?_cons_zero, List.getElem?_cons_succ, List.set_cons_zero, List.set_cons_succ, Option.bind_some, Option.map_some, b_add, b_sub, c_lt, c_le, c_gt, c_ge, f_abs, f_int, f_lenL, f_lenT, decide_true, decide_false, if_true, if_false, Bool.false_eq_true, ite_dec, rngI, rngV, lcV, noOwn, CT.ix, List.all_cons, List.all_nil, Bool.and_true, Sl.own, Bool.not_false, wipeR, backR, bindT, setSh, setShs, asgTV, asgLV, called, lend, lent, home, List.take_succ_cons, List.take_zero, List.nodup_nil, List.nodup_cons, List.not_mem_nil, not_false_eq_true, and_self, itemsD, seqOf, Option.toList, enuI, Nat.reduceSub, Nat.reduceAdd, Nat.reduceEqDiff, b_mul m1, e0]
theorem numbers_ok [Df Δ "_law_numbers" c__law_numbers] (n : Nat) {w i : Nat} (h : w * i ≤ 8) (hw : w ≤ 8) (hi : i ≤ 4) : fnN Δ (n + 1) "_law_numbers" [.sh (shp w i)] = .ok (.fr (.lst (natsD (List.range (2 ^ (w * i)))))) [.sh (shp w i)] := by
  rw [df "_law_numbers"]
  have m1 := mul_kw (k := w) (w := i) (by omega) (by omega)
  have e0 : ((w : Int) * (i : Int)) = ((w * i : Nat) : Int) := by rw [Int.natCast_mul]
  have s1 := shl_one (k := w * i) (by omega)
  have le : 2 ^ (w * i) ≤ 2 ^ 8 := Nat.pow_le_pow_right (by decide) h
  have r1 := rngOk_nat (n := 2 ^ (w * i)) (by omega)
  simp only [c__law_numbers, d_ret, runD, List.length_cons, List.length_nil, d_nil, d_cons, e_var, e_int, e_bl, e_non, e_str, e_fnc, e_bin, e_neg, e_inv, e_cmp, e_chn, e_bop, e_nt, e_ite, e_tup, e_tupS, evSt, e_lst, e_dct, e_dctT, e_popL, d_setd, d_asgL, e_gd, e_spl, e_ptn, e_ix, e_sl, e_bi, e_isi, e_rngL, e_rngT, e_call, e_call0, e_callV, e_dget, e_lc2, e_lc, d_asg, d_asgT, d_par, d_seti, d_app, d_ext, d_exp, d_ifs, d_fors, d_ret, d_retN, d_pass, d_brk, d_cnt, sms, smA, smO, smI, Sm.of, Sm.vt, smVar, rdVar, op1, op2, Re.bd, Re.of, Pl.at, slD?, truD, Rs.d, asgV, setRs, biV, evBs, plAll, evEs, evOp, evA, evTo, evO, evTs, List.cons_append, List.nil_append, List.append_nil, List.replicate, List.getElem?_cons_zero, List.getElem?_cons_succ, List.set_cons_zero, List.set_cons_succ, Option.bind_some, Option.map_some, b_add, b_sub, c_lt, c_le, c_gt, c_ge, f_abs, f_int, f_lenL, f_lenT, decide_true, decide_false, if_true, if_false, Bool.false_eq_true, ite_dec, rngI, rngV, lcV, noOwn, CT.ix, List.all_cons, List.all_nil, Bool.and_true, Sl.own, Bool.not_false, wipeR, backR, bindT, setSh, setShs, asgTV, asgLV, called, lend, lent, home, List.take_succ_cons, List.take_zero, List.nodup_nil, List.nodup_cons, List.not_mem_nil, not_false_eq_true, and_self, itemsD, seqOf, Option.toList, enuI, Nat.reduceSub, Nat.reduceAdd, Nat.reduceEqDiff, x_tup0, x_tup1, b_mul m1, e0, b_shl s1, toNat_nat, one_pow, k_rng1 r1, rngD_nats]
theorem isi_int {x : Int} : isiD .int (.int x) = some true := rfl
theorem isi_bl {x : Int} : isiD .bl (.int x) = some false := rfl
theorem integer_ok [Df Δ "is_integer" c_is_integer] (n : Nat) {x : Int} : fnN Δ (n + 1) "is_integer" [.sh (.int x)] = .ok (.sh (.bl true)) [.sh (.int x)] := by
  rw [df "is_integer"]
  simp only [c_is_integer, d_ret, runD, List.length_cons, List.length_nil, d_nil, d_cons, e_var, e_int, e_bl, e_non, e_str, e_fnc, e_bin, e_neg, e_inv, e_cmp, e_chn, e_bop, e_nt, e_ite, e_tup, e_tupS, evSt, e_lst, e_dct, e_dctT, e_popL, d_setd, d_asgL, e_gd, e_spl, e_ptn, e_ix, e_sl, e_bi, e_isi, e_rngL, e_rngT, e_call, e_call0, e_callV, e_dget, e_lc2, e_lc, d_asg, d_asgT, d_par, d_seti, d_app, d_ext, d_exp, d_ifs, d_fors, d_ret, d_retN, d_pass, d_brk, d_cnt, sms, smA, smO, smI, Sm.of, Sm.vt, smVar, rdVar, op1, op2, Re.bd, Re.of, Pl.at, slD?, truD, Rs.d, asgV, setRs, biV, evBs, plAll, evEs, evOp, evA, evTo, evO, evTs, List.cons_append, List.nil_append, List.append_nil, List.replicate, List.getElem?_cons_zero, List.getElem?_cons_succ, List.set_cons_zero, List.set_cons_succ, Option.bind_some, Option.map_some, b_add, b_sub, c_lt, c_le, c_gt, c_ge, f_abs, f_int, f_lenL, f_lenT, decide_true, decide_false, if_true, if_false, Bool.false_eq_true, ite_dec, rngI, rngV, lcV, noOwn, CT.ix, List.all_cons, List.all_nil, Bool.and_true, Sl.own, Bool.not_false, wipeR, backR, bindT, setSh, setShs, asgTV, asgLV, called, lend, lent, home, List.take_succ_cons, List.take_zero, List.nodup_nil, List.nodup_cons, List.not_mem_nil, not_false_eq_true, and_self, itemsD, seqOf, Option.toList, enuI, Nat.reduceSub, Nat.reduceAdd, Nat.reduceEqDiff, isi_int, isi_bl, notD, Bool.not_false]
def dep (N : Nat) (f : Nat → Bool) (b : Nat) : Bool := (List.range N).any fun x => f x != f (x ^^^ 2 ^ b)
def cnt (N : Nat) (f : Nat → Bool) (j : Nat) : Nat := (((List.range j).filter (dep N f)).map fun b => 2 ^ b).sum
def pl (w i x : Nat) : List Nat := ((List.range (w * i)).filter fun b => decide (x / 2 ^ b % 2 = 1)).map fun b => b % w
theorem pl_len (w i x : Nat) : (pl w i x).length ≤ w * i := by
  unfold pl
  rw [List.length_map]
  have := List.length_filter_le (fun b => decide (x / 2 ^ b % 2 = 1)) (List.range (w * i))
  rwa [List.length_range] at this
theorem pl_lt {w i x p : Nat} (hw : 0 < w) (h : p ∈ pl w i x) : p < w := by
  obtain ⟨b, _, rfl⟩ := List.mem_map.mp h
  exact Nat.mod_lt _ hw
theorem pl_D (w i x : Nat) : ((List.range (w * i)).filter fun b => decide (x / 2 ^ b % 2 = 1)).map (fun b => D.int ((b % w : Nat) : Int)) = natsD (pl w i x) := by
  unfold natsD pl
  rw [List.map_map]
  rfl
theorem bitsof_ok [Df Δ "input_bits" c_input_bits] [Df Δ "bits_of" c_bits_of] (n : Nat) {w i x : Nat} (hw : w ≤ 8) (hi : i ≤ 4) (hx : x < 2 ^ 8) : fnN Δ (n + 2) "bits_of" [.sh (shp w i), .sh (.int x)] = .ok (.fr (.lst (natsD ((List.range (w * i)).filter fun b => x.testBit b)))) [.sh (shp w i), .sh (.int x)] := by
  rw [df "bits_of"]
  have wi : w * i ≤ 8 * 4 := Nat.mul_le_mul hw hi
  have c1 := bits_ok (Δ := Δ) n (w := w) (i := i) hw hi
  have r1 := rngOk_nat (n := w * i) (by omega)
  have hlc := lcW_natsIf (cf := fnN Δ (n + 1)) (j := 2) (it := .rng (.cons (.call "input_bits" (.ex (.var 0) .nil)) .nil)) (c := .cmp .Eq (.bin .BitAnd (.bin .RShift (.var 1) (.var 2)) (.int 1)) (.int 1)) (e := .var 2)
    (ρ := [.sh (shp w i), .sh (.int x), .no]) (ρ1 := [.sh (shp w i), .sh (.int x), .no]) (ρw := [.sh (shp w i), .sh (.int x), .no]) (ρ' := [.sh (shp w i), .sh (.int x), .no]) (l := List.range (w * i))
    (fun b => x.testBit b) (fun b => D.int ((b : Nat) : Int))
    (by simp only [i_rng, runD, List.length_cons, List.length_nil, d_nil, d_cons, e_var, e_int, e_bl, e_non, e_str, e_fnc, e_bin, e_neg, e_inv, e_cmp, e_chn, e_bop, e_nt, e_ite, e_tup, e_tupS, evSt, e_lst, e_dct, e_dctT, e_popL, d_setd, d_asgL, e_gd, e_spl, e_ptn, e_ix, e_sl, e_bi, e_isi, e_rngL, e_rngT, e_call, e_call0, e_callV, e_dget, e_lc2, e_lc, d_asg, d_asgT, d_par, d_seti, d_app, d_ext, d_exp, d_ifs, d_fors, d_ret, d_retN, d_pass, d_brk, d_cnt, sms, smA, smO, smI, Sm.of, Sm.vt, smVar, rdVar, op1, op2, Re.bd, Re.of, Pl.at, slD?, truD, Rs.d, asgV, setRs, biV, evBs, plAll, evEs, evOp, evA, evTo, evO, evTs, List.cons_append, List.nil_append, List.append_nil, List.replicate, List.getElem?_cons_zero, List.getElem?_cons_succ, List.set_cons_zero, List.set_cons_succ, Option.bind_some, Option.map_some, b_add, b_sub, c_lt, c_le, c_gt, c_ge, f_abs, f_int, f_lenL, f_lenT, decide_true, decide_false, if_true, if_false, Bool.false_eq_true, ite_dec, rngI, rngV, lcV, noOwn, CT.ix, List.all_cons, List.all_nil, Bool.and_true, Sl.own, Bool.not_false, wipeR, backR, bindT, setSh, setShs, asgTV, asgLV, called, lend, lent, home, List.take_succ_cons, List.take_zero, List.nodup_nil, List.nodup_cons, List.not_mem_nil, not_false_eq_true, and_self, itemsD, seqOf, Option.toList, enuI, Nat.reduceSub, Nat.reduceAdd, Nat.reduceEqDiff, c1, k_rng1 r1, rngD_nats]) rfl rfl (fun k hk => by
      have h0 : (0 : Int) ≤ (k : Int) := by omega
      have h1 : (0 : Int) ≤ (x : Int) / 2 ^ k := Int.ediv_nonneg (by omega) (by exact_mod_cast Nat.zero_le _)
      have e1 : (x : Int) / 2 ^ k % 2 = ((x / 2 ^ k % 2 : Nat) : Int) := by norm_cast
      simp only [lcTurn, runD, List.length_cons, List.length_nil, d_nil, d_cons, e_var, e_int, e_bl, e_non, e_str, e_fnc, e_bin, e_neg, e_inv, e_cmp, e_chn, e_bop, e_nt, e_ite, e_tup, e_tupS, evSt, e_lst, e_dct, e_dctT, e_popL, d_setd, d_asgL, e_gd, e_spl, e_ptn, e_ix, e_sl, e_bi, e_isi, e_rngL, e_rngT, e_call, e_call0, e_callV, e_dget, e_lc2, e_lc, d_asg, d_asgT, d_par, d_seti, d_app, d_ext, d_exp, d_ifs, d_fors, d_ret, d_retN, d_pass, d_brk, d_cnt, sms, smA, smO, smI, Sm.of, Sm.vt, smVar, rdVar, op1, op2, Re.bd, Re.of, Pl.at, slD?, truD, Rs.d, asgV, setRs, biV, evBs, plAll, evEs, evOp, evA, evTo, evO, evTs, List.cons_append, List.nil_append, List.append_nil, List.replicate, List.getElem?_cons_zero, List.getElem?_cons_succ, List.set_cons_zero, List.set_cons_succ, Option.bind_some, Option.map_some, b_add, b_sub, c_lt, c_le, c_gt, c_ge, f_abs, f_int, f_lenL, f_lenT, decide_true, decide_false, if_true, if_false, Bool.false_eq_true, ite_dec, rngI, rngV, lcV, noOwn, CT.ix, List.all_cons, List.all_nil, Bool.and_true, Sl.own, Bool.not_false, wipeR, backR, bindT, setSh, setShs, asgTV, asgLV, called, lend, lent, home, List.take_succ_cons, List.take_zero, List.nodup_nil, List.nodup_cons, List.not_mem_nil, not_false_eq_true, and_self, itemsD, seqOf, Option.toList, enuI, Nat.reduceSub, Nat.reduceAdd, Nat.reduceEqDiff, b_shr h0, toNat_nat, b_and, and_one h1, e1, c_eqI, bit_of]
      by_cases hc : x.testBit k = true
      · simp only [hc, if_true]
      · rw [Bool.not_eq_true] at hc
        simp only [hc, Bool.false_eq_true, if_false]) (by rw [List.length_range]; omega) rfl
  simp only [c_bits_of, d_ret, runD, List.length_cons, List.length_nil, d_nil, d_cons, e_var, e_int, e_bl, e_non, e_str, e_fnc, e_bin, e_neg, e_inv, e_cmp, e_chn, e_bop, e_nt, e_ite, e_tup, e_tupS, evSt, e_lst, e_dct, e_dctT, e_popL, d_setd, d_asgL, e_gd, e_spl, e_ptn, e_ix, e_sl, e_bi, e_isi, e_rngL, e_rngT, e_call, e_call0, e_callV, e_dget, e_lc2, e_lc, d_asg, d_asgT, d_par, d_seti, d_app, d_ext, d_exp, d_ifs, d_fors, d_ret, d_retN, d_pass, d_brk, d_cnt, sms, smA, smO, smI, Sm.of, Sm.vt, smVar, rdVar, op1, op2, Re.bd, Re.of, Pl.at, slD?, truD, Rs.d, asgV, setRs, biV, evBs, plAll, evEs, evOp, evA, evTo, evO, evTs, List.cons_append, List.nil_append, List.append_nil, List.replicate, List.getElem?_cons_zero, List.getElem?_cons_succ, List.set_cons_zero, List.set_cons_succ, Option.bind_some, Option.map_some, b_add, b_sub, c_lt, c_le, c_gt, c_ge, f_abs, f_int, f_lenL, f_lenT, decide_true, decide_false, if_true, if_false, Bool.false_eq_true, ite_dec, rngI, rngV, lcV, noOwn, CT.ix, List.all_cons, List.all_nil, Bool.and_true, Sl.own, Bool.not_false, wipeR, backR, bindT, setSh, setShs, asgTV, asgLV, called, lend, lent, home, List.take_succ_cons, List.take_zero, List.nodup_nil, List.nodup_cons, List.not_mem_nil, not_false_eq_true, and_self, itemsD, seqOf, Option.toList, enuI, Nat.reduceSub, Nat.reduceAdd, Nat.reduceEqDiff, hlc]
  rfl
theorem bit_dec {x k : Nat} : decide (x / 2 ^ k % 2 = 1) = x.testBit k := by rw [Nat.testBit_eq_decide_div_mod_eq]
theorem places_ok [Df Δ "input_bits" c_input_bits] [Df Δ "bits_of" c_bits_of] [Df Δ "places_of" c_places_of] (n : Nat) {w i x : Nat} (hw0 : 0 < w) (hw : w ≤ 8) (hi : i ≤ 4) (hx : x < 2 ^ 8) : fnN Δ (n + 3) "places_of" [.sh (shp w i), .sh (.int x)] = .ok (.fr (.lst (natsD (pl w i x)))) [.sh (shp w i), .sh (.int x)] := by
  rw [df "places_of"]
  have wi : w * i ≤ 8 * 4 := Nat.mul_le_mul hw hi
  have c1 := bitsof_ok (Δ := Δ) n (w := w) (i := i) (x := x) hw hi hx
  have hlen : ((List.range (w * i)).filter fun b => x.testBit b).length ≤ 32 := by
    have := List.length_filter_le (fun b => x.testBit b) (List.range (w * i))
    rw [List.length_range] at this
    omega
  have hlc := lcW_nats (cf := fnN Δ (n + 2)) (j := 3) (it := .ex (.call "bits_of" (.ex (.var 0) (.ex (.var 1) .nil)))) (e := .bin .Mod (.var 3) (.var 2))
    (ρ := [.sh (shp w i), .sh (.int x), .sh (.int w), .no]) (ρ1 := [.sh (shp w i), .sh (.int x), .sh (.int w), .no]) (ρw := [.sh (shp w i), .sh (.int x), .sh (.int w), .no]) (ρ' := [.sh (shp w i), .sh (.int x), .sh (.int w), .no]) (l := (List.range (w * i)).filter fun b => x.testBit b)
    (fun b => D.int ((b % w : Nat) : Int)) (by simp only [i_ex, runD, List.length_cons, List.length_nil, d_nil, d_cons, e_var, e_int, e_bl, e_non, e_str, e_fnc, e_bin, e_neg, e_inv, e_cmp, e_chn, e_bop, e_nt, e_ite, e_tup, e_tupS, evSt, e_lst, e_dct, e_dctT, e_popL, d_setd, d_asgL, e_gd, e_spl, e_ptn, e_ix, e_sl, e_bi, e_isi, e_rngL, e_rngT, e_call, e_call0, e_callV, e_dget, e_lc2, e_lc, d_asg, d_asgT, d_par, d_seti, d_app, d_ext, d_exp, d_ifs, d_fors, d_ret, d_retN, d_pass, d_brk, d_cnt, sms, smA, smO, smI, Sm.of, Sm.vt, smVar, rdVar, op1, op2, Re.bd, Re.of, Pl.at, slD?, truD, Rs.d, asgV, setRs, biV, evBs, plAll, evEs, evOp, evA, evTo, evO, evTs, List.cons_append, List.nil_append, List.append_nil, List.replicate, List.getElem?_cons_zero, List.getElem?_cons_succ, List.set_cons_zero, List.set_cons_succ, Option.bind_some, Option.map_some, b_add, b_sub, c_lt, c_le, c_gt, c_ge, f_abs, f_int, f_lenL, f_lenT, decide_true, decide_false, if_true, if_false, Bool.false_eq_true, ite_dec, rngI, rngV, lcV, noOwn, CT.ix, List.all_cons, List.all_nil, Bool.and_true, Sl.own, Bool.not_false, wipeR, backR, bindT, setSh, setShs, asgTV, asgLV, called, lend, lent, home, List.take_succ_cons, List.take_zero, List.nodup_nil, List.nodup_cons, List.not_mem_nil, not_false_eq_true, and_self, itemsD, seqOf, Option.toList, enuI, Nat.reduceSub, Nat.reduceAdd, Nat.reduceEqDiff, c1]) rfl rfl (fun k hk => by
      have hw' : (0 : Int) < (w : Int) := by omega
      have e2 : (k : Int) % (w : Int) = ((k % w : Nat) : Int) := by norm_cast
      simp only [lcTurn, runD, List.length_cons, List.length_nil, d_nil, d_cons, e_var, e_int, e_bl, e_non, e_str, e_fnc, e_bin, e_neg, e_inv, e_cmp, e_chn, e_bop, e_nt, e_ite, e_tup, e_tupS, evSt, e_lst, e_dct, e_dctT, e_popL, d_setd, d_asgL, e_gd, e_spl, e_ptn, e_ix, e_sl, e_bi, e_isi, e_rngL, e_rngT, e_call, e_call0, e_callV, e_dget, e_lc2, e_lc, d_asg, d_asgT, d_par, d_seti, d_app, d_ext, d_exp, d_ifs, d_fors, d_ret, d_retN, d_pass, d_brk, d_cnt, sms, smA, smO, smI, Sm.of, Sm.vt, smVar, rdVar, op1, op2, Re.bd, Re.of, Pl.at, slD?, truD, Rs.d, asgV, setRs, biV, evBs, plAll, evEs, evOp, evA, evTo, evO, evTs, List.cons_append, List.nil_append, List.append_nil, List.replicate, List.getElem?_cons_zero, List.getElem?_cons_succ, List.set_cons_zero, List.set_cons_succ, Option.bind_some, Option.map_some, b_add, b_sub, c_lt, c_le, c_gt, c_ge, f_abs, f_int, f_lenL, f_lenT, decide_true, decide_false, if_true, if_false, Bool.false_eq_true, ite_dec, rngI, rngV, lcV, noOwn, CT.ix, List.all_cons, List.all_nil, Bool.and_true, Sl.own, Bool.not_false, wipeR, backR, bindT, setSh, setShs, asgTV, asgLV, called, lend, lent, home, List.take_succ_cons, List.take_zero, List.nodup_nil, List.nodup_cons, List.not_mem_nil, not_false_eq_true, and_self, itemsD, seqOf, Option.toList, enuI, Nat.reduceSub, Nat.reduceAdd, Nat.reduceEqDiff, b_mod hw', e2]) (by omega) rfl
  have ep : ((List.range (w * i)).filter fun b => x.testBit b).map (fun b => D.int ((b % w : Nat) : Int)) = natsD (pl w i x) := by
    rw [← pl_D]
    simp only [bit_dec]
  rw [ep] at hlc
  simp only [c_places_of, d_asg, d_ret, runD, List.length_cons, List.length_nil, d_nil, d_cons, e_var, e_int, e_bl, e_non, e_str, e_fnc, e_bin, e_neg, e_inv, e_cmp, e_chn, e_bop, e_nt, e_ite, e_tup, e_tupS, evSt, e_lst, e_dct, e_dctT, e_popL, d_setd, d_asgL, e_gd, e_spl, e_ptn, e_ix, e_sl, e_bi, e_isi, e_rngL, e_rngT, e_call, e_call0, e_callV, e_dget, e_lc2, e_lc, d_asg, d_asgT, d_par, d_seti, d_app, d_ext, d_exp, d_ifs, d_fors, d_ret, d_retN, d_pass, d_brk, d_cnt, sms, smA, smO, smI, Sm.of, Sm.vt, smVar, rdVar, op1, op2, Re.bd, Re.of, Pl.at, slD?, truD, Rs.d, asgV, setRs, biV, evBs, plAll, evEs, evOp, evA, evTo, evO, evTs, List.cons_append, List.nil_append, List.append_nil, List.replicate, List.getElem?_cons_zero, List.getElem?_cons_succ, List.set_cons_zero, List.set_cons_succ, Option.bind_some, Option.map_some, b_add, b_sub, c_lt, c_le, c_gt, c_ge, f_abs, f_int, f_lenL, f_lenT, decide_true, decide_false, if_true, if_false, Bool.false_eq_true, ite_dec, rngI, rngV, lcV, noOwn, CT.ix, List.all_cons, List.all_nil, Bool.and_true, Sl.own, Bool.not_false, wipeR, backR, bindT, setSh, setShs, asgTV, asgLV, called, lend, lent, home, List.take_succ_cons, List.take_zero, List.nodup_nil, List.nodup_cons, List.not_mem_nil, not_false_eq_true, and_self, itemsD, seqOf, Option.toList, enuI, Nat.reduceSub, Nat.reduceAdd, Nat.reduceEqDiff, x_tup0, hlc]
def wt (l : List Nat) : Nat := (l.map fun p => 2 ^ p).sum
theorem wt_le {l : List Nat} (h : ∀ p ∈ l, p < 8) (hl : l.length ≤ 64) : wt l ≤ 100000 := by
  have := sum_le (fun p => 2 ^ p) 256 l fun p hp => by
    have : (2 : Nat) ^ p ≤ 2 ^ 8 := Nat.pow_le_pow_right (by decide) (Nat.le_of_lt (h p hp))
    omega
  unfold wt
  omega
theorem weight_ok [Df Δ "bits_of" c_bits_of] [Df Δ "input_bits" c_input_bits] [Df Δ "places_of" c_places_of] [Df Δ "weight" c_weight] (n : Nat) {w i x : Nat} (hw0 : 0 < w) (hw : w ≤ 8) (hi : i ≤ 4) (hx : x < 2 ^ 8) : fnN Δ (n + 4) "weight" [.sh (shp w i), .sh (.int x)] = .ok (.sh (.int ((wt (pl w i x) : Nat) : Int))) [.sh (shp w i), .sh (.int x)] := by
  rw [df "weight"]
  have wi : w * i ≤ 8 * 4 := Nat.mul_le_mul hw hi
  have c1 := places_ok (Δ := Δ) n (w := w) (i := i) (x := x) hw0 hw hi hx
  have hlen := pl_len w i x
  have hlc := lcW_nats (cf := fnN Δ (n + 3)) (j := 2) (it := .ex (.call "places_of" (.ex (.var 0) (.ex (.var 1) .nil)))) (e := .bin .LShift (.int 1) (.var 2)) (ρ := [.sh (shp w i), .sh (.int x), .no]) (ρ1 := [.sh (shp w i), .sh (.int x), .no]) (ρw := [.sh (shp w i), .sh (.int x), .no]) (ρ' := [.sh (shp w i), .sh (.int x), .no]) (l := pl w i x)
    (fun k => D.int ((2 ^ k : Nat) : Int)) (by simp only [i_ex, runD, List.length_cons, List.length_nil, d_nil, d_cons, e_var, e_int, e_bl, e_non, e_str, e_fnc, e_bin, e_neg, e_inv, e_cmp, e_chn, e_bop, e_nt, e_ite, e_tup, e_tupS, evSt, e_lst, e_dct, e_dctT, e_popL, d_setd, d_asgL, e_gd, e_spl, e_ptn, e_ix, e_sl, e_bi, e_isi, e_rngL, e_rngT, e_call, e_call0, e_callV, e_dget, e_lc2, e_lc, d_asg, d_asgT, d_par, d_seti, d_app, d_ext, d_exp, d_ifs, d_fors, d_ret, d_retN, d_pass, d_brk, d_cnt, sms, smA, smO, smI, Sm.of, Sm.vt, smVar, rdVar, op1, op2, Re.bd, Re.of, Pl.at, slD?, truD, Rs.d, asgV, setRs, biV, evBs, plAll, evEs, evOp, evA, evTo, evO, evTs, List.cons_append, List.nil_append, List.append_nil, List.replicate, List.getElem?_cons_zero, List.getElem?_cons_succ, List.set_cons_zero, List.set_cons_succ, Option.bind_some, Option.map_some, b_add, b_sub, c_lt, c_le, c_gt, c_ge, f_abs, f_int, f_lenL, f_lenT, decide_true, decide_false, if_true, if_false, Bool.false_eq_true, ite_dec, rngI, rngV, lcV, noOwn, CT.ix, List.all_cons, List.all_nil, Bool.and_true, Sl.own, Bool.not_false, wipeR, backR, bindT, setSh, setShs, asgTV, asgLV, called, lend, lent, home, List.take_succ_cons, List.take_zero, List.nodup_nil, List.nodup_cons, List.not_mem_nil, not_false_eq_true, and_self, itemsD, seqOf, Option.toList, enuI, Nat.reduceSub, Nat.reduceAdd, Nat.reduceEqDiff, c1]) rfl rfl (fun k hk => by
      have hk := pl_lt hw0 hk
      have s1 := shl_one (k := k) (by omega)
      simp only [lcTurn, runD, List.length_cons, List.length_nil, d_nil, d_cons, e_var, e_int, e_bl, e_non, e_str, e_fnc, e_bin, e_neg, e_inv, e_cmp, e_chn, e_bop, e_nt, e_ite, e_tup, e_tupS, evSt, e_lst, e_dct, e_dctT, e_popL, d_setd, d_asgL, e_gd, e_spl, e_ptn, e_ix, e_sl, e_bi, e_isi, e_rngL, e_rngT, e_call, e_call0, e_callV, e_dget, e_lc2, e_lc, d_asg, d_asgT, d_par, d_seti, d_app, d_ext, d_exp, d_ifs, d_fors, d_ret, d_retN, d_pass, d_brk, d_cnt, sms, smA, smO, smI, Sm.of, Sm.vt, smVar, rdVar, op1, op2, Re.bd, Re.of, Pl.at, slD?, truD, Rs.d, asgV, setRs, biV, evBs, plAll, evEs, evOp, evA, evTo, evO, evTs, List.cons_append, List.nil_append, List.append_nil, List.replicate, List.getElem?_cons_zero, List.getElem?_cons_succ, List.set_cons_zero, List.set_cons_succ, Option.bind_some, Option.map_some, b_add, b_sub, c_lt, c_le, c_gt, c_ge, f_abs, f_int, f_lenL, f_lenT, decide_true, decide_false, if_true, if_false, Bool.false_eq_true, ite_dec, rngI, rngV, lcV, noOwn, CT.ix, List.all_cons, List.all_nil, Bool.and_true, Sl.own, Bool.not_false, wipeR, backR, bindT, setSh, setShs, asgTV, asgLV, called, lend, lent, home, List.take_succ_cons, List.take_zero, List.nodup_nil, List.nodup_cons, List.not_mem_nil, not_false_eq_true, and_self, itemsD, seqOf, Option.toList, enuI, Nat.reduceSub, Nat.reduceAdd, Nat.reduceEqDiff, b_shl s1, toNat_nat, one_pow]) (by omega) rfl
  have f1 := f_sum (fun k => 2 ^ k) (pl w i x)
  simp only [c_weight, d_ret, runD, List.length_cons, List.length_nil, d_nil, d_cons, e_var, e_int, e_bl, e_non, e_str, e_fnc, e_bin, e_neg, e_inv, e_cmp, e_chn, e_bop, e_nt, e_ite, e_tup, e_tupS, evSt, e_lst, e_dct, e_dctT, e_popL, d_setd, d_asgL, e_gd, e_spl, e_ptn, e_ix, e_sl, e_bi, e_isi, e_rngL, e_rngT, e_call, e_call0, e_callV, e_dget, e_lc2, e_lc, d_asg, d_asgT, d_par, d_seti, d_app, d_ext, d_exp, d_ifs, d_fors, d_ret, d_retN, d_pass, d_brk, d_cnt, sms, smA, smO, smI, Sm.of, Sm.vt, smVar, rdVar, op1, op2, Re.bd, Re.of, Pl.at, slD?, truD, Rs.d, asgV, setRs, biV, evBs, plAll, evEs, evOp, evA, evTo, evO, evTs, List.cons_append, List.nil_append, List.append_nil, List.replicate, List.getElem?_cons_zero, List.getElem?_cons_succ, List.set_cons_zero, List.set_cons_succ, Option.bind_some, Option.map_some, b_add, b_sub, c_lt, c_le, c_gt, c_ge, f_abs, f_int, f_lenL, f_lenT, decide_true, decide_false, if_true, if_false, Bool.false_eq_true, ite_dec, rngI, rngV, lcV, noOwn, CT.ix, List.all_cons, List.all_nil, Bool.and_true, Sl.own, Bool.not_false, wipeR, backR, bindT, setSh, setShs, asgTV, asgLV, called, lend, lent, home, List.take_succ_cons, List.take_zero, List.nodup_nil, List.nodup_cons, List.not_mem_nil, not_false_eq_true, and_self, itemsD, seqOf, Option.toList, enuI, Nat.reduceSub, Nat.reduceAdd, Nat.reduceEqDiff, hlc, f1]
  rfl
inductive Mv where
  | n | u | d | b
inductive Nm where
  | any (m : Mv) | mono (m : Mv) | aff (m : Mv) | add | mul
def Nm.nm : Nm → String
  | .any .n => "any" | .any .u => "any up" | .any .d => "any down" | .any .b => "any both"
  | .mono .n => "monotone" | .mono .u => "monotone up" | .mono .d => "monotone down" | .mono .b => "monotone both"
  | .aff .n => "affine" | .aff .u => "affine up" | .aff .d => "affine down" | .aff .b => "affine both"
  | .add => "adding" | .mul => "multiplying"
def Mv.nm : Mv → String
  | .n => "" | .u => "up" | .d => "down" | .b => "both"
def Mv.up : Mv → Bool
  | .u => true | .b => true | _ => false
def Mv.dn : Mv → Bool
  | .d => true | .b => true | _ => false
def Nm.up : Nm → Bool
  | .any m => m.up | .mono m => m.up | .aff m => m.up | _ => true
def Nm.dn : Nm → Bool
  | .any m => m.dn | .mono m => m.dn | .aff m => m.dn | _ => false
abbrev Nm.s (k : Nm) : Str := Str.ofString k.nm
theorem isi_str {x : Str} : isiD .str (.str x) = some true := rfl
/-- the bits of such a sum -/
theorem sum_bits (q : Nat → Bool) : ∀ j : Nat, (((List.range j).filter q).map fun b => 2 ^ b).sum < 2 ^ j ∧ ∀ b, (((List.range j).filter q).map fun b => 2 ^ b).sum.testBit b = (decide (b < j) && q b)
  | 0 => by simp
  | j + 1 => by
    obtain ⟨h1, h2⟩ := sum_bits q j
    have e : (((List.range (j + 1)).filter q).map fun b => 2 ^ b).sum = (((List.range j).filter q).map fun b => 2 ^ b).sum + if q j = true then 2 ^ j else 0 := by
      rw [List.range_succ, List.filter_append, List.map_append, List.sum_append]
      congr 1
      by_cases h : q j = true
      · rw [if_pos h, List.filter_cons_of_pos h]; simp
      · rw [if_neg h, List.filter_cons_of_neg h]; simp
    rw [e]
    by_cases h : q j = true
    · rw [if_pos h]
      refine ⟨by rw [Nat.pow_succ]; omega, fun b => ?_⟩
      rw [Nat.add_comm]
      by_cases hb : b = j
      · subst hb
        rw [Nat.testBit_two_pow_add_eq, h2]
        simp [h]
      · by_cases hlt : b < j
        · rw [Nat.testBit_two_pow_add_gt hlt, h2]
          simp [hlt, Nat.lt_succ_of_lt hlt]
        · have hgt : j < b := by omega
          have lt : 2 ^ j + (((List.range j).filter q).map fun b => 2 ^ b).sum < 2 ^ b := by
            have : 2 ^ (j + 1) ≤ 2 ^ b := Nat.pow_le_pow_right (by decide) hgt
            rw [Nat.pow_succ] at this
            omega
          rw [Nat.testBit_lt_two_pow lt]
          have : ¬ b < j + 1 := by omega
          simp [this]
    · rw [if_neg h, Nat.add_zero]
      refine ⟨by rw [Nat.pow_succ]; omega, fun b => ?_⟩
      rw [h2]
      by_cases hb : b = j
      · subst hb
        simp [h]
      · have : (b < j + 1) ↔ b < j := by omega
        simp only [this]
theorem or_nat {a b : Nat} : Builtin.bitOr (a : Int) (b : Int) = ((a ||| b : Nat) : Int) := Bits.bitOr_pp (Int.natCast_nonneg a) (Int.natCast_nonneg b)
theorem lplaces_ok [Df Δ "_law_places" c__law_places] (n : Nat) {w i x : Nat} (hw0 : 0 < w) (hw : w ≤ 8) (hi : i ≤ 4) (hx : x < 2 ^ 8) : fnN Δ (n + 1) "_law_places" [.sh (shp w i), .sh (.int x)] = .ok (.fr (.lst (natsD (pl w i x)))) [.sh (shp w i), .sh (.int x)] := by
  rw [df "_law_places"]
  have wi : w * i ≤ 8 * 4 := Nat.mul_le_mul hw hi
  have m1 := mul_kw (k := w) (w := i) (by omega) (by omega)
  have e0 : ((w : Int) * (i : Int)) = ((w * i : Nat) : Int) := by rw [Int.natCast_mul]
  have r1 := rngOk_nat (n := w * i) (by omega)
  have hlc := lcW_natsIf (cf := fnN Δ n) (j := 2) (it := .rng (.cons (.bin .Mult (.ix (.var 0) (.int 0)) (.ix (.var 0) (.int 1))) .nil)) (c := .cmp .Eq (.bin .Mod (.bin .FloorDiv (.var 1) (.bin .LShift (.int 1) (.var 2))) (.int 2)) (.int 1)) (e := .bin .Mod (.var 2) (.ix (.var 0) (.int 0)))
    (ρ := [.sh (shp w i), .sh (.int x), .no]) (ρ1 := [.sh (shp w i), .sh (.int x), .no]) (ρw := [.sh (shp w i), .sh (.int x), .no]) (ρ' := [.sh (shp w i), .sh (.int x), .no]) (l := List.range (w * i))
    (fun b => decide (x / 2 ^ b % 2 = 1)) (fun b => D.int ((b % w : Nat) : Int))
    (by simp only [i_rng, runD, List.length_cons, List.length_nil, d_nil, d_cons, e_var, e_int, e_bl, e_non, e_str, e_fnc, e_bin, e_neg, e_inv, e_cmp, e_chn, e_bop, e_nt, e_ite, e_tup, e_tupS, evSt, e_lst, e_dct, e_dctT, e_popL, d_setd, d_asgL, e_gd, e_spl, e_ptn, e_ix, e_sl, e_bi, e_isi, e_rngL, e_rngT, e_call, e_call0, e_callV, e_dget, e_lc2, e_lc, d_asg, d_asgT, d_par, d_seti, d_app, d_ext, d_exp, d_ifs, d_fors, d_ret, d_retN, d_pass, d_brk, d_cnt, sms, smA, smO, smI, Sm.of, Sm.vt, smVar, rdVar, op1, op2, Re.bd, Re.of, Pl.at, slD?, truD, Rs.d, asgV, setRs, biV, evBs, plAll, evEs, evOp, evA, evTo, evO, evTs, List.cons_append, List.nil_append, List.append_nil, List.replicate, List.getElem?_cons_zero, List.getElem?_cons_succ, List.set_cons_zero, List.set_cons_succ, Option.bind_some, Option.map_some, b_add, b_sub, c_lt, c_le, c_gt, c_ge, f_abs, f_int, f_lenL, f_lenT, decide_true, decide_false, if_true, if_false, Bool.false_eq_true, ite_dec, rngI, rngV, lcV, noOwn, CT.ix, List.all_cons, List.all_nil, Bool.and_true, Sl.own, Bool.not_false, wipeR, backR, bindT, setSh, setShs, asgTV, asgLV, called, lend, lent, home, List.take_succ_cons, List.take_zero, List.nodup_nil, List.nodup_cons, List.not_mem_nil, not_false_eq_true, and_self, itemsD, seqOf, Option.toList, enuI, Nat.reduceSub, Nat.reduceAdd, Nat.reduceEqDiff, x_tup0, x_tup1, b_mul m1, e0, k_rng1 r1, rngD_nats]) rfl rfl (fun k hk => by
      have hk := List.mem_range.mp hk
      have s1 := shl_one (k := k) (by omega)
      have hw' : (0 : Int) < (w : Int) := by omega
      have p1 : (0 : Int) < ((2 ^ k : Nat) : Int) := by exact_mod_cast Nat.two_pow_pos _
      have q1 : In 33 ((2 ^ k : Nat) : Int) := by
        show ((2 ^ k : Nat) : Int).natAbs < 2 ^ 33
        rw [Int.natAbs_natCast]
        exact Nat.pow_lt_pow_right (by decide) (by omega)
      have f1 := fdOk_of p1 q1
      have two : (0 : Int) < 2 := by decide
      have e1 : (x : Int) / ((2 ^ k : Nat) : Int) % 2 = ((x / 2 ^ k % 2 : Nat) : Int) := by norm_cast
      have e2 : (k : Int) % (w : Int) = ((k % w : Nat) : Int) := by norm_cast
      have e3 : decide (((x / 2 ^ k % 2 : Nat) : Int) = 1) = decide (x / 2 ^ k % 2 = 1) := decide_eq_decide.mpr (by omega)
      simp only [lcTurn, runD, List.length_cons, List.length_nil, d_nil, d_cons, e_var, e_int, e_bl, e_non, e_str, e_fnc, e_bin, e_neg, e_inv, e_cmp, e_chn, e_bop, e_nt, e_ite, e_tup, e_tupS, evSt, e_lst, e_dct, e_dctT, e_popL, d_setd, d_asgL, e_gd, e_spl, e_ptn, e_ix, e_sl, e_bi, e_isi, e_rngL, e_rngT, e_call, e_call0, e_callV, e_dget, e_lc2, e_lc, d_asg, d_asgT, d_par, d_seti, d_app, d_ext, d_exp, d_ifs, d_fors, d_ret, d_retN, d_pass, d_brk, d_cnt, sms, smA, smO, smI, Sm.of, Sm.vt, smVar, rdVar, op1, op2, Re.bd, Re.of, Pl.at, slD?, truD, Rs.d, asgV, setRs, biV, evBs, plAll, evEs, evOp, evA, evTo, evO, evTs, List.cons_append, List.nil_append, List.append_nil, List.replicate, List.getElem?_cons_zero, List.getElem?_cons_succ, List.set_cons_zero, List.set_cons_succ, Option.bind_some, Option.map_some, b_add, b_sub, c_lt, c_le, c_gt, c_ge, f_abs, f_int, f_lenL, f_lenT, decide_true, decide_false, if_true, if_false, Bool.false_eq_true, ite_dec, rngI, rngV, lcV, noOwn, CT.ix, List.all_cons, List.all_nil, Bool.and_true, Sl.own, Bool.not_false, wipeR, backR, bindT, setSh, setShs, asgTV, asgLV, called, lend, lent, home, List.take_succ_cons, List.take_zero, List.nodup_nil, List.nodup_cons, List.not_mem_nil, not_false_eq_true, and_self, itemsD, seqOf, Option.toList, enuI, Nat.reduceSub, Nat.reduceAdd, Nat.reduceEqDiff, x_tup0, b_shl s1, toNat_nat, one_pow, b_fdv f1, b_mod two, e1, c_eqI, b_mod hw', e2, e3]
      by_cases hc : x / 2 ^ k % 2 = 1
      · simp only [hc, decide_true, if_true]
      · simp only [hc, decide_false, Bool.false_eq_true, if_false]) (by rw [List.length_range]; omega) rfl
  rw [pl_D] at hlc
  simp only [c__law_places, d_ret, runD, List.length_cons, List.length_nil, d_nil, d_cons, e_var, e_int, e_bl, e_non, e_str, e_fnc, e_bin, e_neg, e_inv, e_cmp, e_chn, e_bop, e_nt, e_ite, e_tup, e_tupS, evSt, e_lst, e_dct, e_dctT, e_popL, d_setd, d_asgL, e_gd, e_spl, e_ptn, e_ix, e_sl, e_bi, e_isi, e_rngL, e_rngT, e_call, e_call0, e_callV, e_dget, e_lc2, e_lc, d_asg, d_asgT, d_par, d_seti, d_app, d_ext, d_exp, d_ifs, d_fors, d_ret, d_retN, d_pass, d_brk, d_cnt, sms, smA, smO, smI, Sm.of, Sm.vt, smVar, rdVar, op1, op2, Re.bd, Re.of, Pl.at, slD?, truD, Rs.d, asgV, setRs, biV, evBs, plAll, evEs, evOp, evA, evTo, evO, evTs, List.cons_append, List.nil_append, List.append_nil, List.replicate, List.getElem?_cons_zero, List.getElem?_cons_succ, List.set_cons_zero, List.set_cons_succ, Option.bind_some, Option.map_some, b_add, b_sub, c_lt, c_le, c_gt, c_ge, f_abs, f_int, f_lenL, f_lenT, decide_true, decide_false, if_true, if_false, Bool.false_eq_true, ite_dec, rngI, rngV, lcV, noOwn, CT.ix, List.all_cons, List.all_nil, Bool.and_true, Sl.own, Bool.not_false, wipeR, backR, bindT, setSh, setShs, asgTV, asgLV, called, lend, lent, home, List.take_succ_cons, List.take_zero, List.nodup_nil, List.nodup_cons, List.not_mem_nil, not_false_eq_true, and_self, itemsD, seqOf, Option.toList, enuI, Nat.reduceSub, Nat.reduceAdd, Nat.reduceEqDiff, hlc]
theorem b_addL {a b : List D} (h : a.length + b.length ≤ 1000) : binop .Add (.lst a) (.lst b) = some (.fr (.lst (a ++ b))) := if_pos (by show _ ≤ 16777216; omega)
end Wr.SpJ
namespace Wr.SpB
open PySem PySem.Spec L2 Wr Wr.Cd Wr.SpJ
variable {Δ : Str → Option CDef}
theorem potS [Df Δ "_law_pot" c__law_pot] (n : Nat) {ns : List Int} {k : Nat} (hk : k ≤ 63) : ∃ pot, PotI 0 pot ∧ fnN Δ (n + 1) "_law_pot" [.sh (.lst (ns.map D.int)), .sh (.int k)] = .ok (.fr pot) [.sh (.lst (ns.map D.int)), .sh (.int k)] := by
  obtain ⟨pot, hp, e⟩ := pot_ok (fnN Δ n) (ns := ns) hk
  exact ⟨pot, hp, (df "_law_pot" _ _).trans e⟩
theorem shapeS [Df Δ "_law_take" c__law_take] [Df Δ "_law_shape" c__law_shape] (n : Nat) {k m : Nat} {pot : D} (hp : PotI k pot) (hn : k ≤ 1000000) (h0 : 0 < m) (hm : m ≤ 255) :
    ∃ w i pot', 1 ≤ w ∧ 1 ≤ i ∧ i ≤ 4 ∧ w * i ≤ m ∧ PotI (k + 2) pot' ∧ fnN Δ (n + 2) "_law_shape" [.io pot, .sh (.int (m : Int))] = .ok (.sh (shp w i)) [.io pot', .sh (.int (m : Int))] := by
  obtain ⟨d, pot', ⟨w, i, rfl, hw, hi1, hi, hwi⟩, hp', e1⟩ := shape_ok (fnN Δ (n + 1)) (fnN Δ n) (fun args => df "_law_take" n args) hp (by omega) h0 hm
  exact ⟨w, i, pot', hw, hi1, hi, hwi, hp', (df "_law_shape" _ _).trans e1⟩
end Wr.SpB
namespace Wr.SpT
open PySem PySem.Spec L2 Wr Wr.Cd Wr.SpJ Wr.SpB
variable {Δ : Str → Option CDef}
/-- the least place whose power is not below -/
theorem lp_ex (W : Nat) : ∀ K, W ≤ 2 ^ K → ∃ k, k ≤ K ∧ (∀ j, j < k → 2 ^ j < W) ∧ W ≤ 2 ^ k
  | 0, h => ⟨0, Nat.le_refl _, fun j hj => absurd hj (Nat.not_lt_zero _), h⟩
  | K + 1, h => by
    by_cases c : W ≤ 2 ^ K
    · obtain ⟨k, h1, h2, h3⟩ := lp_ex W K c
      exact ⟨k, by omega, h2, h3⟩
    · refine ⟨K + 1, Nat.le_refl _, fun j hj => ?_, h⟩
      have : 2 ^ j ≤ 2 ^ K := Nat.pow_le_pow_right (by decide) (by omega)
      omega
theorem wt_small {w i x : Nat} (hw0 : 0 < w) (hw : w ≤ 8) (hi : i ≤ 4) : wt (pl w i x) ≤ 2 ^ 17 := by
  have wi : w * i ≤ 8 * 4 := Nat.mul_le_mul hw hi
  have hlen := pl_len w i x
  have := wt_le (l := pl w i x) (fun p hp => Nat.lt_of_lt_of_le (pl_lt hw0 hp) hw) (by omega)
  have : (2 : Nat) ^ 17 = 131072 := by decide
  omega
section
variable {w i x k : Nat} (hw0 : 0 < w) (hw : w ≤ 8) (hi : i ≤ 4) (hx : x < 2 ^ 8) (hk : k ≤ 40) (h1 : ∀ j, j < k → 2 ^ j < wt (pl w i x)) (h2 : wt (pl w i x) ≤ 2 ^ k)
include hw0 hw hi hx hk h1 h2
theorem least_ok [Df Δ "input_bits" c_input_bits] [Df Δ "bits_of" c_bits_of] [Df Δ "places_of" c_places_of] [Df Δ "weight" c_weight] [Df Δ "least_place" c_least_place] (n : Nat) :
    fnN Δ (n + 5) "least_place" [.sh (shp w i), .sh (.int x)] = .ok (.sh (.int (k : Int))) [.sh (shp w i), .sh (.int x)] := by
  rw [df "least_place"]
  have c1 := weight_ok (Δ := Δ) n hw0 hw hi hx
  have l := whlW_up (cf := fnN Δ (n + 4)) (c := .cmp .Gt (.call "weight" (.ex (.var 0) (.ex (.var 1) .nil))) (.bin .LShift (.int 1) (.var 2))) (body := .cons (.aug 2 (.int 1)) .nil) (fun j => [.sh (shp w i), .sh (.int x), .sh (.int (j : Int))]) k 0 1000000 (by omega)
    (fun j _ hj => by
      have hj : j < k := by omega
      have s1 := shl_one (k := j) (by omega)
      have hlt := h1 j hj
      have e1 : decide (((2 ^ j : Nat) : Int) < ((wt (pl w i x) : Nat) : Int)) = true := decide_eq_true (by omega)
      refine ⟨?_, ?_⟩
      · simp only [runD, List.length_cons, List.length_nil, d_nil, d_cons, e_var, e_int, e_bl, e_non, e_str, e_fnc, e_bin, e_neg, e_inv, e_cmp, e_chn, e_bop, e_nt, e_ite, e_tup, e_tupS, evSt, e_lst, e_dct, e_dctT, e_popL, d_setd, d_asgL, e_gd, e_spl, e_ptn, e_ix, e_sl, e_bi, e_isi, e_rngL, e_rngT, e_call, e_call0, e_callV, e_dget, e_lc2, e_lc, d_asg, d_asgT, d_par, d_seti, d_app, d_ext, d_exp, d_ifs, d_fors, d_ret, d_retN, d_pass, d_brk, d_cnt, sms, smA, smO, smI, Sm.of, Sm.vt, smVar, rdVar, op1, op2, Re.bd, Re.of, Pl.at, slD?, truD, Rs.d, asgV, biV, evBs, plAll, evEs, evOp, evA, evTo, evO, evTs, List.cons_append, List.nil_append, List.append_nil, List.replicate, List.getElem?_cons_zero, List.getElem?_cons_succ, List.set_cons_zero, List.set_cons_succ, Option.bind_some, Option.map_some, b_add, b_sub, c_lt, c_le, c_gt, c_ge, f_abs, f_int, f_lenL, f_lenT, decide_true, decide_false, if_true, if_false, Bool.false_eq_true, ite_dec, rngI, rngV, lcV, noOwn, CT.ix, List.all_cons, List.all_nil, Bool.and_true, Sl.own, Bool.not_false, wipeR, backR, bindT, setShs, asgTV, asgLV, called, lend, lent, home, List.take_succ_cons, List.take_zero, List.nodup_nil, List.nodup_cons, List.not_mem_nil, not_false_eq_true, and_self, itemsD, seqOf, Option.toList, enuI, Nat.reduceSub, Nat.reduceAdd, Nat.reduceEqDiff, rsSl, st_z, st_s, sr_z, sr_s, stb_sh, stb_no, stb_ow, d_asgS, d_aug, e_gc, e_sls, slsV, e_callK, asgSV, augV, setShs, permL, List.filterMap_cons, List.filterMap_nil, List.map_cons, List.map_nil, List.drop_zero, List.drop_succ_cons, and_true, true_and, Option.map_none, Option.bind_none, c1, b_shl s1, toNat_nat, one_pow, e1]
      · have e2 : (j : Int) + 1 = ((j + 1 : Nat) : Int) := by omega
        simp only [runD, List.length_cons, List.length_nil, d_nil, d_cons, e_var, e_int, e_bl, e_non, e_str, e_fnc, e_bin, e_neg, e_inv, e_cmp, e_chn, e_bop, e_nt, e_ite, e_tup, e_tupS, evSt, e_lst, e_dct, e_dctT, e_popL, d_setd, d_asgL, e_gd, e_spl, e_ptn, e_ix, e_sl, e_bi, e_isi, e_rngL, e_rngT, e_call, e_call0, e_callV, e_dget, e_lc2, e_lc, d_asg, d_asgT, d_par, d_seti, d_app, d_ext, d_exp, d_ifs, d_fors, d_ret, d_retN, d_pass, d_brk, d_cnt, sms, smA, smO, smI, Sm.of, Sm.vt, smVar, rdVar, op1, op2, Re.bd, Re.of, Pl.at, slD?, truD, Rs.d, asgV, biV, evBs, plAll, evEs, evOp, evA, evTo, evO, evTs, List.cons_append, List.nil_append, List.append_nil, List.replicate, List.getElem?_cons_zero, List.getElem?_cons_succ, List.set_cons_zero, List.set_cons_succ, Option.bind_some, Option.map_some, b_add, b_sub, c_lt, c_le, c_gt, c_ge, f_abs, f_int, f_lenL, f_lenT, decide_true, decide_false, if_true, if_false, Bool.false_eq_true, ite_dec, rngI, rngV, lcV, noOwn, CT.ix, List.all_cons, List.all_nil, Bool.and_true, Sl.own, Bool.not_false, wipeR, backR, bindT, setShs, asgTV, asgLV, called, lend, lent, home, List.take_succ_cons, List.take_zero, List.nodup_nil, List.nodup_cons, List.not_mem_nil, not_false_eq_true, and_self, itemsD, seqOf, Option.toList, enuI, Nat.reduceSub, Nat.reduceAdd, Nat.reduceEqDiff, rsSl, st_z, st_s, sr_z, sr_s, stb_sh, stb_no, stb_ow, d_asgS, d_aug, e_gc, e_sls, slsV, e_callK, asgSV, augV, setShs, permL, List.filterMap_cons, List.filterMap_nil, List.map_cons, List.map_nil, List.drop_zero, List.drop_succ_cons, and_true, true_and, Option.map_none, Option.bind_none, e2])
    (by
      have s1 := shl_one (k := 0 + k) (by omega)
      have e1 : decide (((2 ^ (0 + k) : Nat) : Int) < ((wt (pl w i x) : Nat) : Int)) = false := decide_eq_false (by rw [Nat.zero_add]; omega)
      simp only [runD, List.length_cons, List.length_nil, d_nil, d_cons, e_var, e_int, e_bl, e_non, e_str, e_fnc, e_bin, e_neg, e_inv, e_cmp, e_chn, e_bop, e_nt, e_ite, e_tup, e_tupS, evSt, e_lst, e_dct, e_dctT, e_popL, d_setd, d_asgL, e_gd, e_spl, e_ptn, e_ix, e_sl, e_bi, e_isi, e_rngL, e_rngT, e_call, e_call0, e_callV, e_dget, e_lc2, e_lc, d_asg, d_asgT, d_par, d_seti, d_app, d_ext, d_exp, d_ifs, d_fors, d_ret, d_retN, d_pass, d_brk, d_cnt, sms, smA, smO, smI, Sm.of, Sm.vt, smVar, rdVar, op1, op2, Re.bd, Re.of, Pl.at, slD?, truD, Rs.d, asgV, biV, evBs, plAll, evEs, evOp, evA, evTo, evO, evTs, List.cons_append, List.nil_append, List.append_nil, List.replicate, List.getElem?_cons_zero, List.getElem?_cons_succ, List.set_cons_zero, List.set_cons_succ, Option.bind_some, Option.map_some, b_add, b_sub, c_lt, c_le, c_gt, c_ge, f_abs, f_int, f_lenL, f_lenT, decide_true, decide_false, if_true, if_false, Bool.false_eq_true, ite_dec, rngI, rngV, lcV, noOwn, CT.ix, List.all_cons, List.all_nil, Bool.and_true, Sl.own, Bool.not_false, wipeR, backR, bindT, setShs, asgTV, asgLV, called, lend, lent, home, List.take_succ_cons, List.take_zero, List.nodup_nil, List.nodup_cons, List.not_mem_nil, not_false_eq_true, and_self, itemsD, seqOf, Option.toList, enuI, Nat.reduceSub, Nat.reduceAdd, Nat.reduceEqDiff, rsSl, st_z, st_s, sr_z, sr_s, stb_sh, stb_no, stb_ow, d_asgS, d_aug, e_gc, e_sls, slsV, e_callK, asgSV, augV, setShs, permL, List.filterMap_cons, List.filterMap_nil, List.map_cons, List.map_nil, List.drop_zero, List.drop_succ_cons, and_true, true_and, Option.map_none, Option.bind_none, c1, b_shl s1, toNat_nat, one_pow, e1])
  rw [Nat.zero_add] at l
  have z : ((0 : Nat) : Int) = 0 := rfl
  rw [z] at l
  simp only [c_least_place, d_whl, runD, List.length_cons, List.length_nil, d_nil, d_cons, e_var, e_int, e_bl, e_non, e_str, e_fnc, e_bin, e_neg, e_inv, e_cmp, e_chn, e_bop, e_nt, e_ite, e_tup, e_tupS, evSt, e_lst, e_dct, e_dctT, e_popL, d_setd, d_asgL, e_gd, e_spl, e_ptn, e_ix, e_sl, e_bi, e_isi, e_rngL, e_rngT, e_call, e_call0, e_callV, e_dget, e_lc2, e_lc, d_asg, d_asgT, d_par, d_seti, d_app, d_ext, d_exp, d_ifs, d_fors, d_ret, d_retN, d_pass, d_brk, d_cnt, sms, smA, smO, smI, Sm.of, Sm.vt, smVar, rdVar, op1, op2, Re.bd, Re.of, Pl.at, slD?, truD, Rs.d, asgV, biV, evBs, plAll, evEs, evOp, evA, evTo, evO, evTs, List.cons_append, List.nil_append, List.append_nil, List.replicate, List.getElem?_cons_zero, List.getElem?_cons_succ, List.set_cons_zero, List.set_cons_succ, Option.bind_some, Option.map_some, b_add, b_sub, c_lt, c_le, c_gt, c_ge, f_abs, f_int, f_lenL, f_lenT, decide_true, decide_false, if_true, if_false, Bool.false_eq_true, ite_dec, rngI, rngV, lcV, noOwn, CT.ix, List.all_cons, List.all_nil, Bool.and_true, Sl.own, Bool.not_false, wipeR, backR, bindT, setShs, asgTV, asgLV, called, lend, lent, home, List.take_succ_cons, List.take_zero, List.nodup_nil, List.nodup_cons, List.not_mem_nil, not_false_eq_true, and_self, itemsD, seqOf, Option.toList, enuI, Nat.reduceSub, Nat.reduceAdd, Nat.reduceEqDiff, rsSl, st_z, st_s, sr_z, sr_s, stb_sh, stb_no, stb_ow, d_asgS, d_aug, e_gc, e_sls, slsV, e_callK, asgSV, augV, setShs, permL, List.filterMap_cons, List.filterMap_nil, List.map_cons, List.map_nil, List.drop_zero, List.drop_succ_cons, and_true, true_and, Option.map_none, Option.bind_none, l]
theorem burden_ok [Df Δ "_law_places" c__law_places] [Df Δ "_law_burden" c__law_burden] (n : Nat) : fnN Δ (n + 2) "_law_burden" [.sh (shp w i), .sh (.int x)] = .ok (.sh (.int ((wt (pl w i x) : Nat) : Int))) [.sh (shp w i), .sh (.int x)] := by
  rw [df "_law_burden"]
  have wi : w * i ≤ 8 * 4 := Nat.mul_le_mul hw hi
  have c1 := lplaces_ok (Δ := Δ) n hw0 hw hi hx
  have hlen := pl_len w i x
  have hlc := lcW_nats (cf := fnN Δ (n + 1)) (j := 2) (it := .ex (.call "_law_places" (.ex (.var 0) (.ex (.var 1) .nil)))) (e := .bin .LShift (.int 1) (.var 2)) (ρ := [.sh (shp w i), .sh (.int x), .no]) (ρ1 := [.sh (shp w i), .sh (.int x), .no]) (ρw := [.sh (shp w i), .sh (.int x), .no]) (ρ' := [.sh (shp w i), .sh (.int x), .no]) (l := pl w i x)
    (fun k => D.int ((2 ^ k : Nat) : Int)) (by simp only [i_ex, runD, List.length_cons, List.length_nil, d_nil, d_cons, e_var, e_int, e_bl, e_non, e_str, e_fnc, e_bin, e_neg, e_inv, e_cmp, e_chn, e_bop, e_nt, e_ite, e_tup, e_tupS, evSt, e_lst, e_dct, e_dctT, e_popL, d_setd, d_asgL, e_gd, e_spl, e_ptn, e_ix, e_sl, e_bi, e_isi, e_rngL, e_rngT, e_call, e_call0, e_callV, e_dget, e_lc2, e_lc, d_asg, d_asgT, d_par, d_seti, d_app, d_ext, d_exp, d_ifs, d_fors, d_ret, d_retN, d_pass, d_brk, d_cnt, sms, smA, smO, smI, Sm.of, Sm.vt, smVar, rdVar, op1, op2, Re.bd, Re.of, Pl.at, slD?, truD, Rs.d, asgV, biV, evBs, plAll, evEs, evOp, evA, evTo, evO, evTs, List.cons_append, List.nil_append, List.append_nil, List.replicate, List.getElem?_cons_zero, List.getElem?_cons_succ, List.set_cons_zero, List.set_cons_succ, Option.bind_some, Option.map_some, b_add, b_sub, c_lt, c_le, c_gt, c_ge, f_abs, f_int, f_lenL, f_lenT, decide_true, decide_false, if_true, if_false, Bool.false_eq_true, ite_dec, rngI, rngV, lcV, noOwn, CT.ix, List.all_cons, List.all_nil, Bool.and_true, Sl.own, Bool.not_false, wipeR, backR, bindT, setShs, asgTV, asgLV, called, lend, lent, home, List.take_succ_cons, List.take_zero, List.nodup_nil, List.nodup_cons, List.not_mem_nil, not_false_eq_true, and_self, itemsD, seqOf, Option.toList, enuI, Nat.reduceSub, Nat.reduceAdd, Nat.reduceEqDiff, rsSl, st_z, st_s, sr_z, sr_s, stb_sh, stb_no, stb_ow, d_asgS, d_aug, e_gc, e_sls, slsV, e_callK, asgSV, augV, setShs, permL, List.filterMap_cons, List.filterMap_nil, List.map_cons, List.map_nil, List.drop_zero, List.drop_succ_cons, and_true, true_and, Option.map_none, Option.bind_none, c1]) rfl rfl (fun k hk => by
      have hk := pl_lt hw0 hk
      have s1 := shl_one (k := k) (by omega)
      simp only [lcTurn, runD, List.length_cons, List.length_nil, d_nil, d_cons, e_var, e_int, e_bl, e_non, e_str, e_fnc, e_bin, e_neg, e_inv, e_cmp, e_chn, e_bop, e_nt, e_ite, e_tup, e_tupS, evSt, e_lst, e_dct, e_dctT, e_popL, d_setd, d_asgL, e_gd, e_spl, e_ptn, e_ix, e_sl, e_bi, e_isi, e_rngL, e_rngT, e_call, e_call0, e_callV, e_dget, e_lc2, e_lc, d_asg, d_asgT, d_par, d_seti, d_app, d_ext, d_exp, d_ifs, d_fors, d_ret, d_retN, d_pass, d_brk, d_cnt, sms, smA, smO, smI, Sm.of, Sm.vt, smVar, rdVar, op1, op2, Re.bd, Re.of, Pl.at, slD?, truD, Rs.d, asgV, biV, evBs, plAll, evEs, evOp, evA, evTo, evO, evTs, List.cons_append, List.nil_append, List.append_nil, List.replicate, List.getElem?_cons_zero, List.getElem?_cons_succ, List.set_cons_zero, List.set_cons_succ, Option.bind_some, Option.map_some, b_add, b_sub, c_lt, c_le, c_gt, c_ge, f_abs, f_int, f_lenL, f_lenT, decide_true, decide_false, if_true, if_false, Bool.false_eq_true, ite_dec, rngI, rngV, lcV, noOwn, CT.ix, List.all_cons, List.all_nil, Bool.and_true, Sl.own, Bool.not_false, wipeR, backR, bindT, setShs, asgTV, asgLV, called, lend, lent, home, List.take_succ_cons, List.take_zero, List.nodup_nil, List.nodup_cons, List.not_mem_nil, not_false_eq_true, and_self, itemsD, seqOf, Option.toList, enuI, Nat.reduceSub, Nat.reduceAdd, Nat.reduceEqDiff, rsSl, st_z, st_s, sr_z, sr_s, stb_sh, stb_no, stb_ow, d_asgS, d_aug, e_gc, e_sls, slsV, e_callK, asgSV, augV, setShs, permL, List.filterMap_cons, List.filterMap_nil, List.map_cons, List.map_nil, List.drop_zero, List.drop_succ_cons, and_true, true_and, Option.map_none, Option.bind_none, b_shl s1, toNat_nat, one_pow]) (by omega) rfl
  have f1 := f_sum (fun k => 2 ^ k) (pl w i x)
  simp only [c__law_burden, d_ret, runD, List.length_cons, List.length_nil, d_nil, d_cons, e_var, e_int, e_bl, e_non, e_str, e_fnc, e_bin, e_neg, e_inv, e_cmp, e_chn, e_bop, e_nt, e_ite, e_tup, e_tupS, evSt, e_lst, e_dct, e_dctT, e_popL, d_setd, d_asgL, e_gd, e_spl, e_ptn, e_ix, e_sl, e_bi, e_isi, e_rngL, e_rngT, e_call, e_call0, e_callV, e_dget, e_lc2, e_lc, d_asg, d_asgT, d_par, d_seti, d_app, d_ext, d_exp, d_ifs, d_fors, d_ret, d_retN, d_pass, d_brk, d_cnt, sms, smA, smO, smI, Sm.of, Sm.vt, smVar, rdVar, op1, op2, Re.bd, Re.of, Pl.at, slD?, truD, Rs.d, asgV, biV, evBs, plAll, evEs, evOp, evA, evTo, evO, evTs, List.cons_append, List.nil_append, List.append_nil, List.replicate, List.getElem?_cons_zero, List.getElem?_cons_succ, List.set_cons_zero, List.set_cons_succ, Option.bind_some, Option.map_some, b_add, b_sub, c_lt, c_le, c_gt, c_ge, f_abs, f_int, f_lenL, f_lenT, decide_true, decide_false, if_true, if_false, Bool.false_eq_true, ite_dec, rngI, rngV, lcV, noOwn, CT.ix, List.all_cons, List.all_nil, Bool.and_true, Sl.own, Bool.not_false, wipeR, backR, bindT, setShs, asgTV, asgLV, called, lend, lent, home, List.take_succ_cons, List.take_zero, List.nodup_nil, List.nodup_cons, List.not_mem_nil, not_false_eq_true, and_self, itemsD, seqOf, Option.toList, enuI, Nat.reduceSub, Nat.reduceAdd, Nat.reduceEqDiff, rsSl, st_z, st_s, sr_z, sr_s, stb_sh, stb_no, stb_ow, d_asgS, d_aug, e_gc, e_sls, slsV, e_callK, asgSV, augV, setShs, permL, List.filterMap_cons, List.filterMap_nil, List.map_cons, List.map_nil, List.drop_zero, List.drop_succ_cons, and_true, true_and, Option.map_none, Option.bind_none, hlc, f1]
  rfl
theorem low_ok [Df Δ "_law_places" c__law_places] [Df Δ "_law_burden" c__law_burden] [Df Δ "_law_low" c__law_low] (n : Nat) : fnN Δ (n + 3) "_law_low" [.sh (shp w i), .sh (.int x)] = .ok (.sh (.int (k : Int))) [.sh (shp w i), .sh (.int x)] := by
  rw [df "_law_low"]
  have c1 := burden_ok (Δ := Δ) hw0 hw hi hx hk h1 h2 n
  have l := whlW_up (cf := fnN Δ (n + 2)) (c := .cmp .Lt (.bin .LShift (.int 1) (.var 2)) (.call "_law_burden" (.ex (.var 0) (.ex (.var 1) .nil)))) (body := .cons (.asg 2 (.bin .Add (.var 2) (.int 1))) .nil) (fun j => [.sh (shp w i), .sh (.int x), .sh (.int (j : Int))]) k 0 1000000 (by omega)
    (fun j _ hj => by
      have hj : j < k := by omega
      have s1 := shl_one (k := j) (by omega)
      have hlt := h1 j hj
      have e1 : decide (((2 ^ j : Nat) : Int) < ((wt (pl w i x) : Nat) : Int)) = true := decide_eq_true (by omega)
      refine ⟨?_, ?_⟩
      · simp only [runD, List.length_cons, List.length_nil, d_nil, d_cons, e_var, e_int, e_bl, e_non, e_str, e_fnc, e_bin, e_neg, e_inv, e_cmp, e_chn, e_bop, e_nt, e_ite, e_tup, e_tupS, evSt, e_lst, e_dct, e_dctT, e_popL, d_setd, d_asgL, e_gd, e_spl, e_ptn, e_ix, e_sl, e_bi, e_isi, e_rngL, e_rngT, e_call, e_call0, e_callV, e_dget, e_lc2, e_lc, d_asg, d_asgT, d_par, d_seti, d_app, d_ext, d_exp, d_ifs, d_fors, d_ret, d_retN, d_pass, d_brk, d_cnt, sms, smA, smO, smI, Sm.of, Sm.vt, smVar, rdVar, op1, op2, Re.bd, Re.of, Pl.at, slD?, truD, Rs.d, asgV, biV, evBs, plAll, evEs, evOp, evA, evTo, evO, evTs, List.cons_append, List.nil_append, List.append_nil, List.replicate, List.getElem?_cons_zero, List.getElem?_cons_succ, List.set_cons_zero, List.set_cons_succ, Option.bind_some, Option.map_some, b_add, b_sub, c_lt, c_le, c_gt, c_ge, f_abs, f_int, f_lenL, f_lenT, decide_true, decide_false, if_true, if_false, Bool.false_eq_true, ite_dec, rngI, rngV, lcV, noOwn, CT.ix, List.all_cons, List.all_nil, Bool.and_true, Sl.own, Bool.not_false, wipeR, backR, bindT, setShs, asgTV, asgLV, called, lend, lent, home, List.take_succ_cons, List.take_zero, List.nodup_nil, List.nodup_cons, List.not_mem_nil, not_false_eq_true, and_self, itemsD, seqOf, Option.toList, enuI, Nat.reduceSub, Nat.reduceAdd, Nat.reduceEqDiff, rsSl, st_z, st_s, sr_z, sr_s, stb_sh, stb_no, stb_ow, d_asgS, d_aug, e_gc, e_sls, slsV, e_callK, asgSV, augV, setShs, permL, List.filterMap_cons, List.filterMap_nil, List.map_cons, List.map_nil, List.drop_zero, List.drop_succ_cons, and_true, true_and, Option.map_none, Option.bind_none, c1, b_shl s1, toNat_nat, one_pow, e1]
      · have e2 : (j : Int) + 1 = ((j + 1 : Nat) : Int) := by omega
        simp only [runD, List.length_cons, List.length_nil, d_nil, d_cons, e_var, e_int, e_bl, e_non, e_str, e_fnc, e_bin, e_neg, e_inv, e_cmp, e_chn, e_bop, e_nt, e_ite, e_tup, e_tupS, evSt, e_lst, e_dct, e_dctT, e_popL, d_setd, d_asgL, e_gd, e_spl, e_ptn, e_ix, e_sl, e_bi, e_isi, e_rngL, e_rngT, e_call, e_call0, e_callV, e_dget, e_lc2, e_lc, d_asg, d_asgT, d_par, d_seti, d_app, d_ext, d_exp, d_ifs, d_fors, d_ret, d_retN, d_pass, d_brk, d_cnt, sms, smA, smO, smI, Sm.of, Sm.vt, smVar, rdVar, op1, op2, Re.bd, Re.of, Pl.at, slD?, truD, Rs.d, asgV, biV, evBs, plAll, evEs, evOp, evA, evTo, evO, evTs, List.cons_append, List.nil_append, List.append_nil, List.replicate, List.getElem?_cons_zero, List.getElem?_cons_succ, List.set_cons_zero, List.set_cons_succ, Option.bind_some, Option.map_some, b_add, b_sub, c_lt, c_le, c_gt, c_ge, f_abs, f_int, f_lenL, f_lenT, decide_true, decide_false, if_true, if_false, Bool.false_eq_true, ite_dec, rngI, rngV, lcV, noOwn, CT.ix, List.all_cons, List.all_nil, Bool.and_true, Sl.own, Bool.not_false, wipeR, backR, bindT, setShs, asgTV, asgLV, called, lend, lent, home, List.take_succ_cons, List.take_zero, List.nodup_nil, List.nodup_cons, List.not_mem_nil, not_false_eq_true, and_self, itemsD, seqOf, Option.toList, enuI, Nat.reduceSub, Nat.reduceAdd, Nat.reduceEqDiff, rsSl, st_z, st_s, sr_z, sr_s, stb_sh, stb_no, stb_ow, d_asgS, d_aug, e_gc, e_sls, slsV, e_callK, asgSV, augV, setShs, permL, List.filterMap_cons, List.filterMap_nil, List.map_cons, List.map_nil, List.drop_zero, List.drop_succ_cons, and_true, true_and, Option.map_none, Option.bind_none, e2])
    (by
      have s1 := shl_one (k := 0 + k) (by omega)
      have e1 : decide (((2 ^ (0 + k) : Nat) : Int) < ((wt (pl w i x) : Nat) : Int)) = false := decide_eq_false (by rw [Nat.zero_add]; omega)
      simp only [runD, List.length_cons, List.length_nil, d_nil, d_cons, e_var, e_int, e_bl, e_non, e_str, e_fnc, e_bin, e_neg, e_inv, e_cmp, e_chn, e_bop, e_nt, e_ite, e_tup, e_tupS, evSt, e_lst, e_dct, e_dctT, e_popL, d_setd, d_asgL, e_gd, e_spl, e_ptn, e_ix, e_sl, e_bi, e_isi, e_rngL, e_rngT, e_call, e_call0, e_callV, e_dget, e_lc2, e_lc, d_asg, d_asgT, d_par, d_seti, d_app, d_ext, d_exp, d_ifs, d_fors, d_ret, d_retN, d_pass, d_brk, d_cnt, sms, smA, smO, smI, Sm.of, Sm.vt, smVar, rdVar, op1, op2, Re.bd, Re.of, Pl.at, slD?, truD, Rs.d, asgV, biV, evBs, plAll, evEs, evOp, evA, evTo, evO, evTs, List.cons_append, List.nil_append, List.append_nil, List.replicate, List.getElem?_cons_zero, List.getElem?_cons_succ, List.set_cons_zero, List.set_cons_succ, Option.bind_some, Option.map_some, b_add, b_sub, c_lt, c_le, c_gt, c_ge, f_abs, f_int, f_lenL, f_lenT, decide_true, decide_false, if_true, if_false, Bool.false_eq_true, ite_dec, rngI, rngV, lcV, noOwn, CT.ix, List.all_cons, List.all_nil, Bool.and_true, Sl.own, Bool.not_false, wipeR, backR, bindT, setShs, asgTV, asgLV, called, lend, lent, home, List.take_succ_cons, List.take_zero, List.nodup_nil, List.nodup_cons, List.not_mem_nil, not_false_eq_true, and_self, itemsD, seqOf, Option.toList, enuI, Nat.reduceSub, Nat.reduceAdd, Nat.reduceEqDiff, rsSl, st_z, st_s, sr_z, sr_s, stb_sh, stb_no, stb_ow, d_asgS, d_aug, e_gc, e_sls, slsV, e_callK, asgSV, augV, setShs, permL, List.filterMap_cons, List.filterMap_nil, List.map_cons, List.map_nil, List.drop_zero, List.drop_succ_cons, and_true, true_and, Option.map_none, Option.bind_none, c1, b_shl s1, toNat_nat, one_pow, e1])
  rw [Nat.zero_add] at l
  have z : ((0 : Nat) : Int) = 0 := rfl
  rw [z] at l
  simp only [c__law_low, d_whl, runD, List.length_cons, List.length_nil, d_nil, d_cons, e_var, e_int, e_bl, e_non, e_str, e_fnc, e_bin, e_neg, e_inv, e_cmp, e_chn, e_bop, e_nt, e_ite, e_tup, e_tupS, evSt, e_lst, e_dct, e_dctT, e_popL, d_setd, d_asgL, e_gd, e_spl, e_ptn, e_ix, e_sl, e_bi, e_isi, e_rngL, e_rngT, e_call, e_call0, e_callV, e_dget, e_lc2, e_lc, d_asg, d_asgT, d_par, d_seti, d_app, d_ext, d_exp, d_ifs, d_fors, d_ret, d_retN, d_pass, d_brk, d_cnt, sms, smA, smO, smI, Sm.of, Sm.vt, smVar, rdVar, op1, op2, Re.bd, Re.of, Pl.at, slD?, truD, Rs.d, asgV, biV, evBs, plAll, evEs, evOp, evA, evTo, evO, evTs, List.cons_append, List.nil_append, List.append_nil, List.replicate, List.getElem?_cons_zero, List.getElem?_cons_succ, List.set_cons_zero, List.set_cons_succ, Option.bind_some, Option.map_some, b_add, b_sub, c_lt, c_le, c_gt, c_ge, f_abs, f_int, f_lenL, f_lenT, decide_true, decide_false, if_true, if_false, Bool.false_eq_true, ite_dec, rngI, rngV, lcV, noOwn, CT.ix, List.all_cons, List.all_nil, Bool.and_true, Sl.own, Bool.not_false, wipeR, backR, bindT, setShs, asgTV, asgLV, called, lend, lent, home, List.take_succ_cons, List.take_zero, List.nodup_nil, List.nodup_cons, List.not_mem_nil, not_false_eq_true, and_self, itemsD, seqOf, Option.toList, enuI, Nat.reduceSub, Nat.reduceAdd, Nat.reduceEqDiff, rsSl, st_z, st_s, sr_z, sr_s, stb_sh, stb_no, stb_ow, d_asgS, d_aug, e_gc, e_sls, slsV, e_callK, asgSV, augV, setShs, permL, List.filterMap_cons, List.filterMap_nil, List.map_cons, List.map_nil, List.drop_zero, List.drop_succ_cons, and_true, true_and, Option.map_none, Option.bind_none, l]
end
end Wr.SpT
namespace Wr.SpTl
open PySem PySem.Spec L2 Wr Wr.Cd
theorem sss_nx {cf : Fn} {s : CS} {r : CSs} {ρ ρ1 : Rho} (h : ss cf s ρ = .ok .nx ρ1) : sss cf (.cons s r) ρ = sss cf r ρ1 := by
  rw [d_cons]
  show (ss cf s ρ).bd _ = _
  rw [h]
  rfl
end Wr.SpTl
namespace Wr.SpTre
open PySem PySem.Spec L2 Wr Wr.Cd Wr.SpJ Wr.SpB Wr.SpT Wr.SpTl
variable {Δ : Str → Option CDef}
inductive Tr where
  | lf (b : Nat) | rs (t : Tr) | jn (t u : Tr)
def Tr.d : Tr → D
  | .lf b => .int ((b : Nat) : Int)
  | .rs t => .tup [.str "raise", t.d]
  | .jn t u => .tup [.str "join", t.d, u.d]
def Tr.bs : Tr → List Nat
  | .lf b => [b]
  | .rs t => t.bs
  | .jn t u => t.bs ++ u.bs
/-- a tree with a place -/
def Tr.ok (w N : Nat) : Tr → Nat → Prop
  | .lf b, p => b < N ∧ b % w = p
  | .rs t, p => ∃ q, p = q + 1 ∧ t.ok w N q
  | .jn t u, p => ∃ q, p = q + 1 ∧ t.ok w N q ∧ u.ok w N q
/-- the number with a 1 at each of these bits -/
def nb (l : List Nat) : Nat := (l.map fun b => 2 ^ b).sum
theorem ok_lt {w N : Nat} : ∀ {t : Tr} {p : Nat}, t.ok w N p → ∀ b ∈ t.bs, b < N
  | .lf b, p, h, c, hc => by rw [List.mem_singleton.mp hc]; exact h.1
  | .rs t, p, ⟨q, _, h⟩, c, hc => ok_lt h c hc
  | .jn t u, p, ⟨q, _, h1, h2⟩, c, hc => (List.mem_append.mp hc).elim (ok_lt h1 c) (ok_lt h2 c)
theorem bs_ne : ∀ t : Tr, t.bs ≠ []
  | .lf b => fun h => nomatch h
  | .rs t => bs_ne t
  | .jn t u => fun h => bs_ne t (List.append_eq_nil_iff.mp h).1
theorem nb_perm {a b : List Nat} (h : a.Perm b) : nb a = nb b := (h.map _).sum_nat
theorem nb_flt {l : List Nat} {N : Nat} (hd : l.Nodup) (hb : ∀ b ∈ l, b < N) : l.Perm ((List.range N).filter fun b => decide (b ∈ l)) := by
  refine (List.perm_ext_iff_of_nodup hd (List.nodup_range.filter _)).mpr fun b => ?_
  simp only [List.mem_filter, List.mem_range, decide_eq_true_eq]
  exact ⟨fun h => ⟨hb b h, h⟩, fun h => h.2⟩
theorem nb_tb {l : List Nat} {N : Nat} (hd : l.Nodup) (hb : ∀ b ∈ l, b < N) (i : Nat) : (nb l).testBit i = decide (i ∈ l) := by
  rw [nb_perm (nb_flt hd hb)]
  have h := (sum_bits (fun b => decide (b ∈ l)) N).2 i
  have e : nb ((List.range N).filter fun b => decide (b ∈ l)) = (((List.range N).filter fun b => decide (b ∈ l)).map fun b => 2 ^ b).sum := rfl
  rw [e, h]
  by_cases c : i ∈ l
  · simp [c, hb i c]
  · simp [c]
theorem nb_pos {l : List Nat} (h : l ≠ []) : 0 < nb l := by
  cases l with
  | nil => exact absurd rfl h
  | cons b r =>
    show 0 < ((b :: r).map fun b => 2 ^ b).sum
    rw [List.map_cons, List.sum_cons]
    have : 0 < 2 ^ b := Nat.pow_pos (by decide)
    omega
theorem nb_and {a b : List Nat} {N : Nat} (hd : (a ++ b).Nodup) (ha : ∀ x ∈ a, x < N) (hb : ∀ x ∈ b, x < N) : nb b &&& nb a = 0 := by
  obtain ⟨d1, d2, d3⟩ := List.nodup_append.mp hd
  refine Nat.eq_of_testBit_eq fun i => ?_
  rw [Nat.testBit_and, nb_tb d2 hb, nb_tb d1 ha, Nat.zero_testBit]
  by_cases c : i ∈ a
  · have : i ∉ b := fun z => d3 i c i z rfl
    simp [this]
  · simp [c]
theorem nb_or {a b : List Nat} {N : Nat} (hd : (a ++ b).Nodup) (ha : ∀ x ∈ a, x < N) (hb : ∀ x ∈ b, x < N) : nb a ||| nb b = nb (a ++ b) := by
  obtain ⟨d1, d2, d3⟩ := List.nodup_append.mp hd
  refine Nat.eq_of_testBit_eq fun i => ?_
  rw [Nat.testBit_or, nb_tb d2 hb, nb_tb d1 ha, nb_tb hd (fun x hx => (List.mem_append.mp hx).elim (ha x) (hb x))]
  simp
theorem inp_leaf [Df Δ "is_integer" c_is_integer] [Df Δ "input_bits" c_input_bits] [Df Δ "is_input_bit" c_is_input_bit] (n : Nat) {w i b : Nat} (hw0 : 0 < w) (hw : w ≤ 8) (hi : i ≤ 4) (hb : b < w * i) :
    fnN Δ (n + 2) "is_input_bit" [.sh (shp w i), .sh (.int ((b % w : Nat) : Int)), .sh (.int ((b : Nat) : Int))] = .ok (.sh (.bl true)) [.sh (shp w i), .sh (.int ((b % w : Nat) : Int)), .sh (.int ((b : Nat) : Int))] := by
  rw [df "is_input_bit"]
  have c1 := integer_ok (Δ := Δ) n (x := ((b : Nat) : Int))
  have c2 := bits_ok (Δ := Δ) n (w := w) (i := i) hw hi
  have e1 : decide ((0 : Int) ≤ ((b : Nat) : Int)) = true := decide_eq_true (by omega)
  have e2 : decide (((b : Nat) : Int) < ((w * i : Nat) : Int)) = true := decide_eq_true (by omega)
  have e3 : ((b : Nat) : Int) % ((w : Nat) : Int) = ((b % w : Nat) : Int) := rfl
  have b1 := b_mod (a := ((b : Nat) : Int)) (b := ((w : Nat) : Int)) (by omega)
  simp only [c_is_input_bit, chnV, runD, List.length_cons, List.length_nil, d_nil, d_cons, e_var, e_int, e_bl, e_non, e_str, e_fnc, e_bin, e_neg, e_inv, e_cmp, e_chn, e_bop, e_nt, e_ite, e_tup, e_tupS, evSt, e_lst, e_dct, e_dctT, e_popL, d_setd, d_asgL, e_gd, e_spl, e_ptn, e_ix, e_sl, e_bi, e_isi, e_rngL, e_rngT, e_call, e_call0, e_callV, e_dget, e_lc2, e_lc, d_asg, d_asgT, d_par, d_seti, d_app, d_ext, d_exp, d_ifs, d_fors, d_ret, d_retN, d_pass, d_brk, d_cnt, sms, smA, smO, smI, Sm.of, Sm.vt, smVar, rdVar, op1, op2, Re.bd, Re.of, Pl.at, slD?, truD, Rs.d, asgV, biV, evBs, plAll, evEs, evOp, evA, evTo, evO, evTs, List.cons_append, List.nil_append, List.append_nil, List.replicate, List.getElem?_cons_zero, List.getElem?_cons_succ, List.set_cons_zero, List.set_cons_succ, Option.bind_some, Option.map_some, b_add, b_sub, c_lt, c_le, c_gt, c_ge, f_abs, f_int, f_lenL, f_lenT, decide_true, decide_false, if_true, if_false, Bool.false_eq_true, ite_dec, rngI, rngV, lcV, noOwn, CT.ix, List.all_cons, List.all_nil, Bool.and_true, Sl.own, Bool.not_false, wipeR, backR, bindT, setShs, asgTV, asgLV, called, lend, lent, home, List.take_succ_cons, List.take_zero, List.nodup_nil, List.nodup_cons, List.not_mem_nil, not_false_eq_true, and_self, itemsD, seqOf, Option.toList, enuI, Nat.reduceSub, Nat.reduceAdd, Nat.reduceEqDiff, rsSl, st_z, st_s, sr_z, sr_s, stb_sh, stb_no, stb_ow, d_asgS, d_aug, e_gc, e_sls, slsV, e_callK, asgSV, augV, setShs, permL, List.filterMap_cons, List.filterMap_nil, List.map_cons, List.map_nil, List.drop_zero, List.drop_succ_cons, and_true, true_and, Option.map_none, Option.bind_none, c1, c2, e1, e2, xt0, b1, e3, c_eqI]
theorem inp_tup [Df Δ "is_integer" c_is_integer] [Df Δ "is_input_bit" c_is_input_bit] (n : Nat) {s p : D} {xs : List D} :
    fnN Δ (n + 2) "is_input_bit" [.sh s, .sh p, .sh (.tup xs)] = .ok (.sh (.bl false)) [.sh s, .sh p, .sh (.tup xs)] := by
  rw [df "is_input_bit"]
  have c1 : fnN Δ (n + 1) "is_integer" [.sh (.tup xs)] = .ok (.sh (.bl false)) [.sh (.tup xs)] := by
    rw [df "is_integer"]
    have a : isiD .int (.tup xs) = some false := rfl
    simp only [c_is_integer, runD, List.length_cons, List.length_nil, d_nil, d_cons, e_var, e_int, e_bl, e_non, e_str, e_fnc, e_bin, e_neg, e_inv, e_cmp, e_chn, e_bop, e_nt, e_ite, e_tup, e_tupS, evSt, e_lst, e_dct, e_dctT, e_popL, d_setd, d_asgL, e_gd, e_spl, e_ptn, e_ix, e_sl, e_bi, e_isi, e_rngL, e_rngT, e_call, e_call0, e_callV, e_dget, e_lc2, e_lc, d_asg, d_asgT, d_par, d_seti, d_app, d_ext, d_exp, d_ifs, d_fors, d_ret, d_retN, d_pass, d_brk, d_cnt, sms, smA, smO, smI, Sm.of, Sm.vt, smVar, rdVar, op1, op2, Re.bd, Re.of, Pl.at, slD?, truD, Rs.d, asgV, biV, evBs, plAll, evEs, evOp, evA, evTo, evO, evTs, List.cons_append, List.nil_append, List.append_nil, List.replicate, List.getElem?_cons_zero, List.getElem?_cons_succ, List.set_cons_zero, List.set_cons_succ, Option.bind_some, Option.map_some, b_add, b_sub, c_lt, c_le, c_gt, c_ge, f_abs, f_int, f_lenL, f_lenT, decide_true, decide_false, if_true, if_false, Bool.false_eq_true, ite_dec, rngI, rngV, lcV, noOwn, CT.ix, List.all_cons, List.all_nil, Bool.and_true, Sl.own, Bool.not_false, wipeR, backR, bindT, setShs, asgTV, asgLV, called, lend, lent, home, List.take_succ_cons, List.take_zero, List.nodup_nil, List.nodup_cons, List.not_mem_nil, not_false_eq_true, and_self, itemsD, seqOf, Option.toList, enuI, Nat.reduceSub, Nat.reduceAdd, Nat.reduceEqDiff, rsSl, st_z, st_s, sr_z, sr_s, stb_sh, stb_no, stb_ow, d_asgS, d_aug, e_gc, e_sls, slsV, e_callK, asgSV, augV, setShs, permL, List.filterMap_cons, List.filterMap_nil, List.map_cons, List.map_nil, List.drop_zero, List.drop_succ_cons, and_true, true_and, Option.map_none, Option.bind_none, a]
  simp only [c_is_input_bit, chnV, runD, List.length_cons, List.length_nil, d_nil, d_cons, e_var, e_int, e_bl, e_non, e_str, e_fnc, e_bin, e_neg, e_inv, e_cmp, e_chn, e_bop, e_nt, e_ite, e_tup, e_tupS, evSt, e_lst, e_dct, e_dctT, e_popL, d_setd, d_asgL, e_gd, e_spl, e_ptn, e_ix, e_sl, e_bi, e_isi, e_rngL, e_rngT, e_call, e_call0, e_callV, e_dget, e_lc2, e_lc, d_asg, d_asgT, d_par, d_seti, d_app, d_ext, d_exp, d_ifs, d_fors, d_ret, d_retN, d_pass, d_brk, d_cnt, sms, smA, smO, smI, Sm.of, Sm.vt, smVar, rdVar, op1, op2, Re.bd, Re.of, Pl.at, slD?, truD, Rs.d, asgV, biV, evBs, plAll, evEs, evOp, evA, evTo, evO, evTs, List.cons_append, List.nil_append, List.append_nil, List.replicate, List.getElem?_cons_zero, List.getElem?_cons_succ, List.set_cons_zero, List.set_cons_succ, Option.bind_some, Option.map_some, b_add, b_sub, c_lt, c_le, c_gt, c_ge, f_abs, f_int, f_lenL, f_lenT, decide_true, decide_false, if_true, if_false, Bool.false_eq_true, ite_dec, rngI, rngV, lcV, noOwn, CT.ix, List.all_cons, List.all_nil, Bool.and_true, Sl.own, Bool.not_false, wipeR, backR, bindT, setShs, asgTV, asgLV, called, lend, lent, home, List.take_succ_cons, List.take_zero, List.nodup_nil, List.nodup_cons, List.not_mem_nil, not_false_eq_true, and_self, itemsD, seqOf, Option.toList, enuI, Nat.reduceSub, Nat.reduceAdd, Nat.reduceEqDiff, rsSl, st_z, st_s, sr_z, sr_s, stb_sh, stb_no, stb_ow, d_asgS, d_aug, e_gc, e_sls, slsV, e_callK, asgSV, augV, setShs, permL, List.filterMap_cons, List.filterMap_nil, List.map_cons, List.map_nil, List.drop_zero, List.drop_succ_cons, and_true, true_and, Option.map_none, Option.bind_none, c1]
theorem parts_rs [Df Δ "parts_of" c_parts_of] (n : Nat) {a : D} : fnN Δ (n + 1) "parts_of" [.sh (.tup [.str "raise", a])] = .ok (.sh (.tup [a])) [.sh (.tup [.str "raise", a])] := by
  rw [df "parts_of"]
  have a1 : isiD .tup (.tup [.str "raise", a]) = some true := rfl
  have a2 : biF .len [.tup [.str "raise", a]] = some (.sh (.int 2)) := rfl
  have a3 : cmpop .Eq (.str "raise") (.str "raise") = some true := by kernel_rfl
  have a4 : slD (.tup [.str "raise", a]) (some 1) none = some (.sh (.tup [a])) := rfl
  simp only [c_parts_of, slV, runD, List.length_cons, List.length_nil, d_nil, d_cons, e_var, e_int, e_bl, e_non, e_str, e_fnc, e_bin, e_neg, e_inv, e_cmp, e_chn, e_bop, e_nt, e_ite, e_tup, e_tupS, evSt, e_lst, e_dct, e_dctT, e_popL, d_setd, d_asgL, e_gd, e_spl, e_ptn, e_ix, e_sl, e_bi, e_isi, e_rngL, e_rngT, e_call, e_call0, e_callV, e_dget, e_lc2, e_lc, d_asg, d_asgT, d_par, d_seti, d_app, d_ext, d_exp, d_ifs, d_fors, d_ret, d_retN, d_pass, d_brk, d_cnt, sms, smA, smO, smI, Sm.of, Sm.vt, smVar, rdVar, op1, op2, Re.bd, Re.of, Pl.at, slD?, truD, Rs.d, asgV, biV, evBs, plAll, evEs, evOp, evA, evTo, evO, evTs, List.cons_append, List.nil_append, List.append_nil, List.replicate, List.getElem?_cons_zero, List.getElem?_cons_succ, List.set_cons_zero, List.set_cons_succ, Option.bind_some, Option.map_some, b_add, b_sub, c_lt, c_le, c_gt, c_ge, f_abs, f_int, f_lenL, f_lenT, decide_true, decide_false, if_true, if_false, Bool.false_eq_true, ite_dec, rngI, rngV, lcV, noOwn, CT.ix, List.all_cons, List.all_nil, Bool.and_true, Sl.own, Bool.not_false, wipeR, backR, bindT, setShs, asgTV, asgLV, called, lend, lent, home, List.take_succ_cons, List.take_zero, List.nodup_nil, List.nodup_cons, List.not_mem_nil, not_false_eq_true, and_self, itemsD, seqOf, Option.toList, enuI, Nat.reduceSub, Nat.reduceAdd, Nat.reduceEqDiff, rsSl, st_z, st_s, sr_z, sr_s, stb_sh, stb_no, stb_ow, d_asgS, d_aug, e_gc, e_sls, slsV, e_callK, asgSV, augV, setShs, permL, List.filterMap_cons, List.filterMap_nil, List.map_cons, List.map_nil, List.drop_zero, List.drop_succ_cons, and_true, true_and, Option.map_none, Option.bind_none, a1, a2, a3, a4, xt0, c_eqI, Int.reduceEq, Bool.not_true, Bool.true_eq_false]
theorem parts_jn [Df Δ "parts_of" c_parts_of] (n : Nat) {a b : D} : fnN Δ (n + 1) "parts_of" [.sh (.tup [.str "join", a, b])] = .ok (.sh (.tup [a, b])) [.sh (.tup [.str "join", a, b])] := by
  rw [df "parts_of"]
  have a1 : isiD .tup (.tup [.str "join", a, b]) = some true := rfl
  have a2 : biF .len [.tup [.str "join", a, b]] = some (.sh (.int 3)) := rfl
  have a3 : cmpop .Eq (.str "join") (.str "raise") = some false := by kernel_rfl
  have a5 : cmpop .Eq (.str "join") (.str "join") = some true := by kernel_rfl
  have a4 : slD (.tup [.str "join", a, b]) (some 1) none = some (.sh (.tup [a, b])) := rfl
  simp only [c_parts_of, slV, runD, List.length_cons, List.length_nil, d_nil, d_cons, e_var, e_int, e_bl, e_non, e_str, e_fnc, e_bin, e_neg, e_inv, e_cmp, e_chn, e_bop, e_nt, e_ite, e_tup, e_tupS, evSt, e_lst, e_dct, e_dctT, e_popL, d_setd, d_asgL, e_gd, e_spl, e_ptn, e_ix, e_sl, e_bi, e_isi, e_rngL, e_rngT, e_call, e_call0, e_callV, e_dget, e_lc2, e_lc, d_asg, d_asgT, d_par, d_seti, d_app, d_ext, d_exp, d_ifs, d_fors, d_ret, d_retN, d_pass, d_brk, d_cnt, sms, smA, smO, smI, Sm.of, Sm.vt, smVar, rdVar, op1, op2, Re.bd, Re.of, Pl.at, slD?, truD, Rs.d, asgV, biV, evBs, plAll, evEs, evOp, evA, evTo, evO, evTs, List.cons_append, List.nil_append, List.append_nil, List.replicate, List.getElem?_cons_zero, List.getElem?_cons_succ, List.set_cons_zero, List.set_cons_succ, Option.bind_some, Option.map_some, b_add, b_sub, c_lt, c_le, c_gt, c_ge, f_abs, f_int, f_lenL, f_lenT, decide_true, decide_false, if_true, if_false, Bool.false_eq_true, ite_dec, rngI, rngV, lcV, noOwn, CT.ix, List.all_cons, List.all_nil, Bool.and_true, Sl.own, Bool.not_false, wipeR, backR, bindT, setShs, asgTV, asgLV, called, lend, lent, home, List.take_succ_cons, List.take_zero, List.nodup_nil, List.nodup_cons, List.not_mem_nil, not_false_eq_true, and_self, itemsD, seqOf, Option.toList, enuI, Nat.reduceSub, Nat.reduceAdd, Nat.reduceEqDiff, rsSl, st_z, st_s, sr_z, sr_s, stb_sh, stb_no, stb_ow, d_asgS, d_aug, e_gc, e_sls, slsV, e_callK, asgSV, augV, setShs, permL, List.filterMap_cons, List.filterMap_nil, List.map_cons, List.map_nil, List.drop_zero, List.drop_succ_cons, and_true, true_and, Option.map_none, Option.bind_none, a1, a2, a3, a4, a5, xt0, c_eqI, Int.reduceEq, Bool.not_true, Bool.true_eq_false]
def bdT : CSs := (.cons (.asg 5 (.call "tree_bits" (.ex (.var 0) (.ex (.bin .Sub (.var 1) (.int 1)) (.ex (.var 4) .nil)))))
    (.cons (.ifs (.bop false (.cons (.cmp .Eq (.var 5) (.int 0)) (.cons (.cmp .NotEq (.bin .BitAnd (.var 5) (.var 3)) (.int 0)) .nil)))
    (.cons (.ret (.int 0))
    .nil)
    .nil)
    (.cons (.asg 3 (.bin .BitOr (.var 3) (.var 5)))
    .nil)))
theorem tb_turn {cf : Fn} {s v d : D} {q a b : Nat} {s4 s5 : Sl} (h4 : stb s4) (h5 : stb s5) (c : cf "tree_bits" [.sh s, .sh (.int ((q : Nat) : Int)), .sh d] = .ok (.sh (.int ((b : Nat) : Int))) [.sh s, .sh (.int ((q : Nat) : Int)), .sh d])
    (hb : 0 < b) (hd : b &&& a = 0) : Wr.forTurn (.nm 4) (sss cf bdT) d [.sh s, .sh (.int ((q + 1 : Nat) : Int)), .sh v, .sh (.int ((a : Nat) : Int)), s4, s5] = .ok .nx [.sh s, .sh (.int ((q + 1 : Nat) : Int)), .sh v, .sh (.int ((a ||| b : Nat) : Int)), .sh d, .sh (.int ((b : Nat) : Int))] := by
  have e1 : ((q + 1 : Nat) : Int) - 1 = ((q : Nat) : Int) := by omega
  have e2 : decide (((b : Nat) : Int) = 0) = false := decide_eq_false (by omega)
  have e3 : (((0 : Nat) : Int)) = 0 := rfl
  simp only [Wr.forTurn, bdT, runD, List.length_cons, List.length_nil, d_nil, d_cons, e_var, e_int, e_bl, e_non, e_str, e_fnc, e_bin, e_neg, e_inv, e_cmp, e_chn, e_bop, e_nt, e_ite, e_tup, e_tupS, evSt, e_lst, e_dct, e_dctT, e_popL, d_setd, d_asgL, e_gd, e_spl, e_ptn, e_ix, e_sl, e_bi, e_isi, e_rngL, e_rngT, e_call, e_call0, e_callV, e_dget, e_lc2, e_lc, d_asg, d_asgT, d_par, d_seti, d_app, d_ext, d_exp, d_ifs, d_fors, d_ret, d_retN, d_pass, d_brk, d_cnt, sms, smA, smO, smI, Sm.of, Sm.vt, smVar, rdVar, op1, op2, Re.bd, Re.of, Pl.at, slD?, truD, Rs.d, asgV, biV, evBs, plAll, evEs, evOp, evA, evTo, evO, evTs, List.cons_append, List.nil_append, List.append_nil, List.replicate, List.getElem?_cons_zero, List.getElem?_cons_succ, List.set_cons_zero, List.set_cons_succ, Option.bind_some, Option.map_some, b_add, b_sub, c_lt, c_le, c_gt, c_ge, f_abs, f_int, f_lenL, f_lenT, decide_true, decide_false, if_true, if_false, Bool.false_eq_true, ite_dec, rngI, rngV, lcV, noOwn, CT.ix, List.all_cons, List.all_nil, Bool.and_true, Sl.own, Bool.not_false, wipeR, backR, bindT, setShs, asgTV, asgLV, called, lend, lent, home, List.take_succ_cons, List.take_zero, List.nodup_nil, List.nodup_cons, List.not_mem_nil, not_false_eq_true, and_self, itemsD, seqOf, Option.toList, enuI, Nat.reduceSub, Nat.reduceAdd, Nat.reduceEqDiff, rsSl, st_z, st_s, sr_z, sr_s, stb_sh, stb_no, stb_ow, d_asgS, d_aug, e_gc, e_sls, slsV, e_callK, asgSV, augV, setShs, permL, List.filterMap_cons, List.filterMap_nil, List.map_cons, List.map_nil, List.drop_zero, List.drop_succ_cons, and_true, true_and, Option.map_none, Option.bind_none, h4, h5, e1, c, c_eqI, c_neI, e2, b_and, b_or, and_nat, or_nat, hd, e3, Bool.not_true]
theorem tb_ok [Df Δ "is_integer" c_is_integer] [Df Δ "input_bits" c_input_bits] [Df Δ "is_input_bit" c_is_input_bit] [Df Δ "parts_of" c_parts_of] [Df Δ "tree_bits" c_tree_bits] {w i : Nat} (hw0 : 0 < w) (hw : w ≤ 8) (hi : i ≤ 4) :
    ∀ (t : Tr) (p M : Nat), t.ok w (w * i) p → t.bs.Nodup → fnN Δ (M + p + 3) "tree_bits" [.sh (shp w i), .sh (.int ((p : Nat) : Int)), .sh t.d] = .ok (.sh (.int ((nb t.bs : Nat) : Int))) [.sh (shp w i), .sh (.int ((p : Nat) : Int)), .sh t.d]
  | .lf b, p, M, h, _ => by
    obtain ⟨h1, h2⟩ := h
    subst h2
    rw [df "tree_bits"]
    have c1 := inp_leaf (Δ := Δ) (M + b % w) hw0 hw hi h1
    have wi : w * i ≤ 8 * 4 := Nat.mul_le_mul hw hi
    have s1 := shl_one (k := b) (by omega)
    have e : nb [b] = 2 ^ b := by simp [nb]
    simp only [c_tree_bits, Tr.d, Tr.bs, e, runD, List.length_cons, List.length_nil, d_nil, d_cons, e_var, e_int, e_bl, e_non, e_str, e_fnc, e_bin, e_neg, e_inv, e_cmp, e_chn, e_bop, e_nt, e_ite, e_tup, e_tupS, evSt, e_lst, e_dct, e_dctT, e_popL, d_setd, d_asgL, e_gd, e_spl, e_ptn, e_ix, e_sl, e_bi, e_isi, e_rngL, e_rngT, e_call, e_call0, e_callV, e_dget, e_lc2, e_lc, d_asg, d_asgT, d_par, d_seti, d_app, d_ext, d_exp, d_ifs, d_fors, d_ret, d_retN, d_pass, d_brk, d_cnt, sms, smA, smO, smI, Sm.of, Sm.vt, smVar, rdVar, op1, op2, Re.bd, Re.of, Pl.at, slD?, truD, Rs.d, asgV, biV, evBs, plAll, evEs, evOp, evA, evTo, evO, evTs, List.cons_append, List.nil_append, List.append_nil, List.replicate, List.getElem?_cons_zero, List.getElem?_cons_succ, List.set_cons_zero, List.set_cons_succ, Option.bind_some, Option.map_some, b_add, b_sub, c_lt, c_le, c_gt, c_ge, f_abs, f_int, f_lenL, f_lenT, decide_true, decide_false, if_true, if_false, Bool.false_eq_true, ite_dec, rngI, rngV, lcV, noOwn, CT.ix, List.all_cons, List.all_nil, Bool.and_true, Sl.own, Bool.not_false, wipeR, backR, bindT, setShs, asgTV, asgLV, called, lend, lent, home, List.take_succ_cons, List.take_zero, List.nodup_nil, List.nodup_cons, List.not_mem_nil, not_false_eq_true, and_self, itemsD, seqOf, Option.toList, enuI, Nat.reduceSub, Nat.reduceAdd, Nat.reduceEqDiff, rsSl, st_z, st_s, sr_z, sr_s, stb_sh, stb_no, stb_ow, d_asgS, d_aug, e_gc, e_sls, slsV, e_callK, asgSV, augV, setShs, permL, List.filterMap_cons, List.filterMap_nil, List.map_cons, List.map_nil, List.drop_zero, List.drop_succ_cons, and_true, true_and, Option.map_none, Option.bind_none, c1, b_shl s1, toNat_nat, one_pow]
  | .rs t, p, M, ⟨q, hp, h⟩, nd => by
    subst hp
    have ih := tb_ok hw0 hw hi t q M h nd
    show fnN Δ ((M + q + 3) + 1) "tree_bits" _ = _
    rw [df "tree_bits"]
    have c1 : fnN Δ (M + q + 3) "is_input_bit" _ = _ := inp_tup (Δ := Δ) (M + q + 1) (s := shp w i) (p := .int ((q + 1 : Nat) : Int)) (xs := [.str "raise", t.d])
    have c2 : fnN Δ (M + q + 3) "parts_of" _ = _ := parts_rs (Δ := Δ) (M + q + 2) (a := t.d)
    have c3 := fun s4 s5 h4 h5 => tb_turn (cf := fnN Δ (M + q + 3)) (s := shp w i) (v := .tup [.str "raise", t.d]) (d := t.d) (q := q) (a := 0) (b := nb t.bs) (s4 := s4) (s5 := s5) h4 h5 ih (nb_pos (bs_ne t)) (Nat.and_zero _)
    have e : forW (fnN Δ (M + q + 3)) (.nm 4) bdT [t.d] [.sh (shp w i), .sh (.int ((q + 1 : Nat) : Int)), .sh (.tup [.str "raise", t.d]), .sh (.int 0), .no, .no] = .ok .nx [.sh (shp w i), .sh (.int ((q + 1 : Nat) : Int)), .sh (.tup [.str "raise", t.d]), .sh (.int ((nb t.bs : Nat) : Int)), .sh t.d, .sh (.int ((nb t.bs : Nat) : Int))] := by
      unfold forW forRun
      have z := c3 _ _ stb_no stb_no
      rw [Nat.zero_or] at z
      rw [show (D.int 0 : D) = .int ((0 : Nat) : Int) from rfl, z]
      rfl
    have e' : c_tree_bits.body = .cons (.ifs (.call "is_input_bit" (.ex (.var 0) (.ex (.var 1) (.ex (.var 2) .nil)))) (.cons (.ret (.bin .LShift (.int 1) (.var 2))) .nil) .nil) (.cons (.asg 3 (.int 0)) (.cons (.fors (.nm 4) (.ex (.call "parts_of" (.ex (.var 2) .nil))) bdT) (.cons (.ret (.var 3)) .nil))) := rfl
    have np : c_tree_bits.np = 3 := rfl
    have ns : c_tree_bits.ns = 6 := rfl
    simp only [Tr.d, Tr.bs, i_ex, runD, List.length_cons, List.length_nil, d_nil, d_cons, e_var, e_int, e_bl, e_non, e_str, e_fnc, e_bin, e_neg, e_inv, e_cmp, e_chn, e_bop, e_nt, e_ite, e_tup, e_tupS, evSt, e_lst, e_dct, e_dctT, e_popL, d_setd, d_asgL, e_gd, e_spl, e_ptn, e_ix, e_sl, e_bi, e_isi, e_rngL, e_rngT, e_call, e_call0, e_callV, e_dget, e_lc2, e_lc, d_asg, d_asgT, d_par, d_seti, d_app, d_ext, d_exp, d_ifs, d_fors, d_ret, d_retN, d_pass, d_brk, d_cnt, sms, smA, smO, smI, Sm.of, Sm.vt, smVar, rdVar, op1, op2, Re.bd, Re.of, Pl.at, slD?, truD, Rs.d, asgV, biV, evBs, plAll, evEs, evOp, evA, evTo, evO, evTs, List.cons_append, List.nil_append, List.append_nil, List.replicate, List.getElem?_cons_zero, List.getElem?_cons_succ, List.set_cons_zero, List.set_cons_succ, Option.bind_some, Option.map_some, b_add, b_sub, c_lt, c_le, c_gt, c_ge, f_abs, f_int, f_lenL, f_lenT, decide_true, decide_false, if_true, if_false, Bool.false_eq_true, ite_dec, rngI, rngV, lcV, noOwn, CT.ix, List.all_cons, List.all_nil, Bool.and_true, Sl.own, Bool.not_false, wipeR, backR, bindT, setShs, asgTV, asgLV, called, lend, lent, home, List.take_succ_cons, List.take_zero, List.nodup_nil, List.nodup_cons, List.not_mem_nil, not_false_eq_true, and_self, itemsD, seqOf, Option.toList, enuI, Nat.reduceSub, Nat.reduceAdd, Nat.reduceEqDiff, rsSl, st_z, st_s, sr_z, sr_s, stb_sh, stb_no, stb_ow, d_asgS, d_aug, e_gc, e_sls, slsV, e_callK, asgSV, augV, setShs, permL, List.filterMap_cons, List.filterMap_nil, List.map_cons, List.map_nil, List.drop_zero, List.drop_succ_cons, and_true, true_and, Option.map_none, Option.bind_none, e', np, ns, c1, c2, e]
  | .jn t u, p, M, ⟨q, hp, h1, h2⟩, nd => by
    subst hp
    obtain ⟨d1, d2, d3⟩ := List.nodup_append.mp (show (t.bs ++ u.bs).Nodup from nd)
    have ih1 := tb_ok hw0 hw hi t q M h1 d1
    have ih2 := tb_ok hw0 hw hi u q M h2 d2
    show fnN Δ ((M + q + 3) + 1) "tree_bits" _ = _
    rw [df "tree_bits"]
    have c1 : fnN Δ (M + q + 3) "is_input_bit" _ = _ := inp_tup (Δ := Δ) (M + q + 1) (s := shp w i) (p := .int ((q + 1 : Nat) : Int)) (xs := [.str "join", t.d, u.d])
    have c2 : fnN Δ (M + q + 3) "parts_of" _ = _ := parts_jn (Δ := Δ) (M + q + 2) (a := t.d) (b := u.d)
    have c3 := tb_turn (cf := fnN Δ (M + q + 3)) (s := shp w i) (v := .tup [.str "join", t.d, u.d]) (d := t.d) (q := q) (a := 0) (b := nb t.bs) stb_no stb_no ih1 (nb_pos (bs_ne t)) (Nat.and_zero _)
    have c4 := tb_turn (cf := fnN Δ (M + q + 3)) (s := shp w i) (v := .tup [.str "join", t.d, u.d]) (d := u.d) (q := q) (a := nb t.bs) (b := nb u.bs) (s4 := .sh t.d) (s5 := .sh (.int ((nb t.bs : Nat) : Int))) stb_sh stb_sh ih2 (nb_pos (bs_ne u)) (nb_and nd (ok_lt h1) (ok_lt h2))
    rw [Nat.zero_or] at c3
    rw [nb_or nd (ok_lt h1) (ok_lt h2)] at c4
    have e : forW (fnN Δ (M + q + 3)) (.nm 4) bdT [t.d, u.d] [.sh (shp w i), .sh (.int ((q + 1 : Nat) : Int)), .sh (.tup [.str "join", t.d, u.d]), .sh (.int 0), .no, .no] = .ok .nx [.sh (shp w i), .sh (.int ((q + 1 : Nat) : Int)), .sh (.tup [.str "join", t.d, u.d]), .sh (.int ((nb (t.bs ++ u.bs) : Nat) : Int)), .sh u.d, .sh (.int ((nb u.bs : Nat) : Int))] := by
      unfold forW forRun
      rw [show (D.int 0 : D) = .int ((0 : Nat) : Int) from rfl, c3]
      unfold forRun
      dsimp only
      rw [c4]
      rfl
    have e' : c_tree_bits.body = .cons (.ifs (.call "is_input_bit" (.ex (.var 0) (.ex (.var 1) (.ex (.var 2) .nil)))) (.cons (.ret (.bin .LShift (.int 1) (.var 2))) .nil) .nil) (.cons (.asg 3 (.int 0)) (.cons (.fors (.nm 4) (.ex (.call "parts_of" (.ex (.var 2) .nil))) bdT) (.cons (.ret (.var 3)) .nil))) := rfl
    have np : c_tree_bits.np = 3 := rfl
    have ns : c_tree_bits.ns = 6 := rfl
    simp only [Tr.d, Tr.bs, i_ex, runD, List.length_cons, List.length_nil, d_nil, d_cons, e_var, e_int, e_bl, e_non, e_str, e_fnc, e_bin, e_neg, e_inv, e_cmp, e_chn, e_bop, e_nt, e_ite, e_tup, e_tupS, evSt, e_lst, e_dct, e_dctT, e_popL, d_setd, d_asgL, e_gd, e_spl, e_ptn, e_ix, e_sl, e_bi, e_isi, e_rngL, e_rngT, e_call, e_call0, e_callV, e_dget, e_lc2, e_lc, d_asg, d_asgT, d_par, d_seti, d_app, d_ext, d_exp, d_ifs, d_fors, d_ret, d_retN, d_pass, d_brk, d_cnt, sms, smA, smO, smI, Sm.of, Sm.vt, smVar, rdVar, op1, op2, Re.bd, Re.of, Pl.at, slD?, truD, Rs.d, asgV, biV, evBs, plAll, evEs, evOp, evA, evTo, evO, evTs, List.cons_append, List.nil_append, List.append_nil, List.replicate, List.getElem?_cons_zero, List.getElem?_cons_succ, List.set_cons_zero, List.set_cons_succ, Option.bind_some, Option.map_some, b_add, b_sub, c_lt, c_le, c_gt, c_ge, f_abs, f_int, f_lenL, f_lenT, decide_true, decide_false, if_true, if_false, Bool.false_eq_true, ite_dec, rngI, rngV, lcV, noOwn, CT.ix, List.all_cons, List.all_nil, Bool.and_true, Sl.own, Bool.not_false, wipeR, backR, bindT, setShs, asgTV, asgLV, called, lend, lent, home, List.take_succ_cons, List.take_zero, List.nodup_nil, List.nodup_cons, List.not_mem_nil, not_false_eq_true, and_self, itemsD, seqOf, Option.toList, enuI, Nat.reduceSub, Nat.reduceAdd, Nat.reduceEqDiff, rsSl, st_z, st_s, sr_z, sr_s, stb_sh, stb_no, stb_ow, d_asgS, d_aug, e_gc, e_sls, slsV, e_callK, asgSV, augV, setShs, permL, List.filterMap_cons, List.filterMap_nil, List.map_cons, List.map_nil, List.drop_zero, List.drop_succ_cons, and_true, true_and, Option.map_none, Option.bind_none, e', np, ns, c1, c2, e]
theorem shows_ok [Df Δ "is_integer" c_is_integer] [Df Δ "input_bits" c_input_bits] [Df Δ "is_input_bit" c_is_input_bit] [Df Δ "parts_of" c_parts_of] [Df Δ "tree_bits" c_tree_bits] [Df Δ "shows_tree" c_shows_tree] {w i x : Nat} (hw0 : 0 < w) (hw : w ≤ 8) (hi : i ≤ 4)
    (t : Tr) (p M : Nat) (h : t.ok w (w * i) p) (nd : t.bs.Nodup) (e : nb t.bs = x) : fnN Δ (M + p + 4) "shows_tree" [.sh (shp w i), .sh (.int ((x : Nat) : Int)), .sh (.int ((p : Nat) : Int)), .sh t.d] = .ok (.sh (.bl true)) [.sh (shp w i), .sh (.int ((x : Nat) : Int)), .sh (.int ((p : Nat) : Int)), .sh t.d] := by
  rw [df "shows_tree"]
  have c := tb_ok (Δ := Δ) hw0 hw hi t p M h nd
  rw [e] at c
  have e1 : decide (((x : Nat) : Int) = ((x : Nat) : Int)) = true := decide_eq_true rfl
  simp only [c_shows_tree, runD, List.length_cons, List.length_nil, d_nil, d_cons, e_var, e_int, e_bl, e_non, e_str, e_fnc, e_bin, e_neg, e_inv, e_cmp, e_chn, e_bop, e_nt, e_ite, e_tup, e_tupS, evSt, e_lst, e_dct, e_dctT, e_popL, d_setd, d_asgL, e_gd, e_spl, e_ptn, e_ix, e_sl, e_bi, e_isi, e_rngL, e_rngT, e_call, e_call0, e_callV, e_dget, e_lc2, e_lc, d_asg, d_asgT, d_par, d_seti, d_app, d_ext, d_exp, d_ifs, d_fors, d_ret, d_retN, d_pass, d_brk, d_cnt, sms, smA, smO, smI, Sm.of, Sm.vt, smVar, rdVar, op1, op2, Re.bd, Re.of, Pl.at, slD?, truD, Rs.d, asgV, biV, evBs, plAll, evEs, evOp, evA, evTo, evO, evTs, List.cons_append, List.nil_append, List.append_nil, List.replicate, List.getElem?_cons_zero, List.getElem?_cons_succ, List.set_cons_zero, List.set_cons_succ, Option.bind_some, Option.map_some, b_add, b_sub, c_lt, c_le, c_gt, c_ge, f_abs, f_int, f_lenL, f_lenT, decide_true, decide_false, if_true, if_false, Bool.false_eq_true, ite_dec, rngI, rngV, lcV, noOwn, CT.ix, List.all_cons, List.all_nil, Bool.and_true, Sl.own, Bool.not_false, wipeR, backR, bindT, setShs, asgTV, asgLV, called, lend, lent, home, List.take_succ_cons, List.take_zero, List.nodup_nil, List.nodup_cons, List.not_mem_nil, not_false_eq_true, and_self, itemsD, seqOf, Option.toList, enuI, Nat.reduceSub, Nat.reduceAdd, Nat.reduceEqDiff, rsSl, st_z, st_s, sr_z, sr_s, stb_sh, stb_no, stb_ow, d_asgS, d_aug, e_gc, e_sls, slsV, e_callK, asgSV, augV, setShs, permL, List.filterMap_cons, List.filterMap_nil, List.map_cons, List.map_nil, List.drop_zero, List.drop_succ_cons, and_true, true_and, Option.map_none, Option.bind_none, c, c_eqI, e1]
end Wr.SpTre
namespace Wr.SpTrf
open PySem PySem.Spec L2 Wr Wr.Cd Wr.SpJ Wr.SpB Wr.SpT Wr.SpTl Wr.SpTre
variable {Δ : Str → Option CDef}
theorem eq_empty {a : D} {r : List D} : cmpop .Eq (.tup (a :: r)) (.tup []) = some false := by
  show eqD (.tup (a :: r)) (.tup []) = some false
  unfold eqD
  have e0 : eq0 (.tup (a :: r)) (.tup []) = some false := rfl
  split
  · rename_i p q hp hq
    split
    · have e1 : ∃ x xs, p = .tuple (x :: xs) := by
        have z : (toPys (a :: r)).map PyData.tuple = some p := hp
        obtain ⟨ps, h1, h2⟩ := Option.map_eq_some_iff.mp z
        unfold toPys at h1
        split at h1
        · cases h1; exact ⟨_, _, h2.symm⟩
        · cases h1
      have e2 : q = .tuple [] := by
        have z : some (PyData.tuple []) = some q := hq
        exact (Option.some.inj z).symm
      obtain ⟨x, xs, rfl⟩ := e1
      subst e2
      simp [PyData.eqv, PyData.eqvAll]
    · exact e0
  · exact e0
theorem whole_int [Df Δ "_law_is_whole" c__law_is_whole] (n : Nat) {x : Int} : fnN Δ (n + 1) "_law_is_whole" [.sh (.int x)] = .ok (.sh (.bl true)) [.sh (.int x)] := by
  rw [df "_law_is_whole"]
  simp only [c__law_is_whole, runD, List.length_cons, List.length_nil, d_nil, d_cons, e_var, e_int, e_bl, e_non, e_str, e_fnc, e_bin, e_neg, e_inv, e_cmp, e_chn, e_bop, e_nt, e_ite, e_tup, e_tupS, evSt, e_lst, e_dct, e_dctT, e_popL, d_setd, d_asgL, e_gd, e_spl, e_ptn, e_ix, e_sl, e_bi, e_isi, e_rngL, e_rngT, e_call, e_call0, e_callV, e_dget, e_lc2, e_lc, d_asg, d_asgT, d_par, d_seti, d_app, d_ext, d_exp, d_ifs, d_fors, d_ret, d_retN, d_pass, d_brk, d_cnt, sms, smA, smO, smI, Sm.of, Sm.vt, smVar, rdVar, op1, op2, Re.bd, Re.of, Pl.at, slD?, truD, Rs.d, asgV, biV, evBs, plAll, evEs, evOp, evA, evTo, evO, evTs, List.cons_append, List.nil_append, List.append_nil, List.replicate, List.getElem?_cons_zero, List.getElem?_cons_succ, List.set_cons_zero, List.set_cons_succ, Option.bind_some, Option.map_some, b_add, b_sub, c_lt, c_le, c_gt, c_ge, f_abs, f_int, f_lenL, f_lenT, decide_true, decide_false, if_true, if_false, Bool.false_eq_true, ite_dec, rngI, rngV, lcV, noOwn, CT.ix, List.all_cons, List.all_nil, Bool.and_true, Sl.own, Bool.not_false, wipeR, backR, bindT, setShs, asgTV, asgLV, called, lend, lent, home, List.take_succ_cons, List.take_zero, List.nodup_nil, List.nodup_cons, List.not_mem_nil, not_false_eq_true, and_self, itemsD, seqOf, Option.toList, enuI, Nat.reduceSub, Nat.reduceAdd, Nat.reduceEqDiff, rsSl, st_z, st_s, sr_z, sr_s, stb_sh, stb_no, stb_ow, d_asgS, d_aug, e_gc, e_sls, slsV, e_callK, asgSV, augV, setShs, permL, List.filterMap_cons, List.filterMap_nil, List.map_cons, List.map_nil, List.drop_zero, List.drop_succ_cons, and_true, true_and, Option.map_none, Option.bind_none, isi_int, isi_bl, notD, Bool.not_false]
theorem whole_tup [Df Δ "_law_is_whole" c__law_is_whole] (n : Nat) {xs : List D} : fnN Δ (n + 1) "_law_is_whole" [.sh (.tup xs)] = .ok (.sh (.bl false)) [.sh (.tup xs)] := by
  rw [df "_law_is_whole"]
  have a : isiD .int (.tup xs) = some false := rfl
  simp only [c__law_is_whole, runD, List.length_cons, List.length_nil, d_nil, d_cons, e_var, e_int, e_bl, e_non, e_str, e_fnc, e_bin, e_neg, e_inv, e_cmp, e_chn, e_bop, e_nt, e_ite, e_tup, e_tupS, evSt, e_lst, e_dct, e_dctT, e_popL, d_setd, d_asgL, e_gd, e_spl, e_ptn, e_ix, e_sl, e_bi, e_isi, e_rngL, e_rngT, e_call, e_call0, e_callV, e_dget, e_lc2, e_lc, d_asg, d_asgT, d_par, d_seti, d_app, d_ext, d_exp, d_ifs, d_fors, d_ret, d_retN, d_pass, d_brk, d_cnt, sms, smA, smO, smI, Sm.of, Sm.vt, smVar, rdVar, op1, op2, Re.bd, Re.of, Pl.at, slD?, truD, Rs.d, asgV, biV, evBs, plAll, evEs, evOp, evA, evTo, evO, evTs, List.cons_append, List.nil_append, List.append_nil, List.replicate, List.getElem?_cons_zero, List.getElem?_cons_succ, List.set_cons_zero, List.set_cons_succ, Option.bind_some, Option.map_some, b_add, b_sub, c_lt, c_le, c_gt, c_ge, f_abs, f_int, f_lenL, f_lenT, decide_true, decide_false, if_true, if_false, Bool.false_eq_true, ite_dec, rngI, rngV, lcV, noOwn, CT.ix, List.all_cons, List.all_nil, Bool.and_true, Sl.own, Bool.not_false, wipeR, backR, bindT, setShs, asgTV, asgLV, called, lend, lent, home, List.take_succ_cons, List.take_zero, List.nodup_nil, List.nodup_cons, List.not_mem_nil, not_false_eq_true, and_self, itemsD, seqOf, Option.toList, enuI, Nat.reduceSub, Nat.reduceAdd, Nat.reduceEqDiff, rsSl, st_z, st_s, sr_z, sr_s, stb_sh, stb_no, stb_ow, d_asgS, d_aug, e_gc, e_sls, slsV, e_callK, asgSV, augV, setShs, permL, List.filterMap_cons, List.filterMap_nil, List.map_cons, List.map_nil, List.drop_zero, List.drop_succ_cons, and_true, true_and, Option.map_none, Option.bind_none, a]
/-- what is seen of a tree -/
def seen (p : Nat) (l : List Nat) : D := .tup [.int ((p : Nat) : Int), .lst (natsD l)]
def bdP : CSs := .cons (.ext 1 (.var 3)) .nil
theorem put_turn {cf : Fn} {a : D} {p : Nat} {l m : List Nat} {s2 s3 : Sl} (h2 : stb s2) (h3 : stb s3) (hl : l.length ≤ 100) (hm : m.length ≤ 100) : Wr.forTurn (.tp [2, 3]) (sss cf bdP) (seen p m) [.sh a, .ow (.lst (natsD l)), s2, s3] = .ok .nx [.sh a, .ow (.lst (natsD (l ++ m))), .sh (.int ((p : Nat) : Int)), .sh (.lst (natsD m))] := by
  have e : natsD l ++ natsD m = natsD (l ++ m) := by unfold natsD; rw [List.map_append]
  have ln : ∀ l, (natsD l).length = l.length := fun l => by unfold natsD; rw [List.length_map]
  have z : (natsD l).length + (natsD m).length ≤ sizeL := by rw [ln, ln]; show _ ≤ 16777216; omega
  simp only [Wr.forTurn, bdP, seen, extV, ownL, chg, runD, List.length_cons, List.length_nil, d_nil, d_cons, e_var, e_int, e_bl, e_non, e_str, e_fnc, e_bin, e_neg, e_inv, e_cmp, e_chn, e_bop, e_nt, e_ite, e_tup, e_tupS, evSt, e_lst, e_dct, e_dctT, e_popL, d_setd, d_asgL, e_gd, e_spl, e_ptn, e_ix, e_sl, e_bi, e_isi, e_rngL, e_rngT, e_call, e_call0, e_callV, e_dget, e_lc2, e_lc, d_asg, d_asgT, d_par, d_seti, d_app, d_ext, d_exp, d_ifs, d_fors, d_ret, d_retN, d_pass, d_brk, d_cnt, sms, smA, smO, smI, Sm.of, Sm.vt, smVar, rdVar, op1, op2, Re.bd, Re.of, Pl.at, slD?, truD, Rs.d, asgV, biV, evBs, plAll, evEs, evOp, evA, evTo, evO, evTs, List.cons_append, List.nil_append, List.append_nil, List.replicate, List.getElem?_cons_zero, List.getElem?_cons_succ, List.set_cons_zero, List.set_cons_succ, Option.bind_some, Option.map_some, b_add, b_sub, c_lt, c_le, c_gt, c_ge, f_abs, f_int, f_lenL, f_lenT, decide_true, decide_false, if_true, if_false, Bool.false_eq_true, ite_dec, rngI, rngV, lcV, noOwn, CT.ix, List.all_cons, List.all_nil, Bool.and_true, Sl.own, Bool.not_false, wipeR, backR, bindT, setShs, asgTV, asgLV, called, lend, lent, home, List.take_succ_cons, List.take_zero, List.nodup_nil, List.nodup_cons, List.not_mem_nil, not_false_eq_true, and_self, itemsD, seqOf, Option.toList, enuI, Nat.reduceSub, Nat.reduceAdd, Nat.reduceEqDiff, rsSl, st_z, st_s, sr_z, sr_s, stb_sh, stb_no, stb_ow, d_asgS, d_aug, e_gc, e_sls, slsV, e_callK, asgSV, augV, setShs, permL, List.filterMap_cons, List.filterMap_nil, List.map_cons, List.map_nil, List.drop_zero, List.drop_succ_cons, and_true, true_and, Option.map_none, Option.bind_none, h2, h3]
  rw [if_pos z, e]
  rfl
theorem put_one [Df Δ "_law_put_together" c__law_put_together] (n : Nat) {p : Nat} {l : List Nat} (hl : l.length ≤ 100) : fnN Δ (n + 1) "_law_put_together" [.sh (.lst [seen p l])] = .ok (.fr (.lst (natsD l))) [.sh (.lst [seen p l])] := by
  rw [df "_law_put_together"]
  have t := put_turn (cf := fnN Δ n) (a := .lst [seen p l]) (p := p) (l := []) (m := l) stb_no stb_no (by decide) hl
  have e : forW (fnN Δ n) (.tp [2, 3]) bdP [seen p l] [.sh (.lst [seen p l]), .ow (.lst []), .no, .no] = .ok .nx [.sh (.lst [seen p l]), .ow (.lst (natsD l)), .sh (.int ((p : Nat) : Int)), .sh (.lst (natsD l))] := by
    unfold forW forRun
    rw [show (D.lst [] : D) = .lst (natsD []) from rfl, t]
    rfl
  have z : (0 : Nat) ≤ sizeL := Nat.zero_le _
  have e' : c__law_put_together.body = .cons (.asg 1 (.lst .nil)) (.cons (.fors (.tp [2, 3]) (.ex (.var 0)) bdP) (.cons (.ret (.var 1)) .nil)) := rfl
  have np : c__law_put_together.np = 1 := rfl
  have ns : c__law_put_together.ns = 4 := rfl
  simp only [i_ex, runD, List.length_cons, List.length_nil, d_nil, d_cons, e_var, e_int, e_bl, e_non, e_str, e_fnc, e_bin, e_neg, e_inv, e_cmp, e_chn, e_bop, e_nt, e_ite, e_tup, e_tupS, evSt, e_lst, e_dct, e_dctT, e_popL, d_setd, d_asgL, e_gd, e_spl, e_ptn, e_ix, e_sl, e_bi, e_isi, e_rngL, e_rngT, e_call, e_call0, e_callV, e_dget, e_lc2, e_lc, d_asg, d_asgT, d_par, d_seti, d_app, d_ext, d_exp, d_ifs, d_fors, d_ret, d_retN, d_pass, d_brk, d_cnt, sms, smA, smO, smI, Sm.of, Sm.vt, smVar, rdVar, op1, op2, Re.bd, Re.of, Pl.at, slD?, truD, Rs.d, asgV, biV, evBs, plAll, evEs, evOp, evA, evTo, evO, evTs, List.cons_append, List.nil_append, List.append_nil, List.replicate, List.getElem?_cons_zero, List.getElem?_cons_succ, List.set_cons_zero, List.set_cons_succ, Option.bind_some, Option.map_some, b_add, b_sub, c_lt, c_le, c_gt, c_ge, f_abs, f_int, f_lenL, f_lenT, decide_true, decide_false, if_true, if_false, Bool.false_eq_true, ite_dec, rngI, rngV, lcV, noOwn, CT.ix, List.all_cons, List.all_nil, Bool.and_true, Sl.own, Bool.not_false, wipeR, backR, bindT, setShs, asgTV, asgLV, called, lend, lent, home, List.take_succ_cons, List.take_zero, List.nodup_nil, List.nodup_cons, List.not_mem_nil, not_false_eq_true, and_self, itemsD, seqOf, Option.toList, enuI, Nat.reduceSub, Nat.reduceAdd, Nat.reduceEqDiff, rsSl, st_z, st_s, sr_z, sr_s, stb_sh, stb_no, stb_ow, d_asgS, d_aug, e_gc, e_sls, slsV, e_callK, asgSV, augV, setShs, permL, List.filterMap_cons, List.filterMap_nil, List.map_cons, List.map_nil, List.drop_zero, List.drop_succ_cons, and_true, true_and, Option.map_none, Option.bind_none, e', np, ns, e, z]
theorem put_two [Df Δ "_law_put_together" c__law_put_together] (n : Nat) {p : Nat} {l m : List Nat} (hl : l.length ≤ 100) (hm : m.length ≤ 100) : fnN Δ (n + 1) "_law_put_together" [.sh (.lst [seen p l, seen p m])] = .ok (.fr (.lst (natsD (l ++ m)))) [.sh (.lst [seen p l, seen p m])] := by
  rw [df "_law_put_together"]
  have t := put_turn (cf := fnN Δ n) (a := .lst [seen p l, seen p m]) (p := p) (l := []) (m := l) stb_no stb_no (by decide) hl
  have t2 := put_turn (cf := fnN Δ n) (a := .lst [seen p l, seen p m]) (p := p) (l := l) (m := m) (s2 := .sh (.int ((p : Nat) : Int))) (s3 := .sh (.lst (natsD l))) stb_sh stb_sh hl hm
  have e : forW (fnN Δ n) (.tp [2, 3]) bdP [seen p l, seen p m] [.sh (.lst [seen p l, seen p m]), .ow (.lst []), .no, .no] = .ok .nx [.sh (.lst [seen p l, seen p m]), .ow (.lst (natsD (l ++ m))), .sh (.int ((p : Nat) : Int)), .sh (.lst (natsD m))] := by
    unfold forW forRun
    rw [show (D.lst [] : D) = .lst (natsD []) from rfl, t]
    unfold forRun
    dsimp only
    rw [List.nil_append, t2]
    rfl
  have z : (0 : Nat) ≤ sizeL := Nat.zero_le _
  have e' : c__law_put_together.body = .cons (.asg 1 (.lst .nil)) (.cons (.fors (.tp [2, 3]) (.ex (.var 0)) bdP) (.cons (.ret (.var 1)) .nil)) := rfl
  have np : c__law_put_together.np = 1 := rfl
  have ns : c__law_put_together.ns = 4 := rfl
  simp only [i_ex, runD, List.length_cons, List.length_nil, d_nil, d_cons, e_var, e_int, e_bl, e_non, e_str, e_fnc, e_bin, e_neg, e_inv, e_cmp, e_chn, e_bop, e_nt, e_ite, e_tup, e_tupS, evSt, e_lst, e_dct, e_dctT, e_popL, d_setd, d_asgL, e_gd, e_spl, e_ptn, e_ix, e_sl, e_bi, e_isi, e_rngL, e_rngT, e_call, e_call0, e_callV, e_dget, e_lc2, e_lc, d_asg, d_asgT, d_par, d_seti, d_app, d_ext, d_exp, d_ifs, d_fors, d_ret, d_retN, d_pass, d_brk, d_cnt, sms, smA, smO, smI, Sm.of, Sm.vt, smVar, rdVar, op1, op2, Re.bd, Re.of, Pl.at, slD?, truD, Rs.d, asgV, biV, evBs, plAll, evEs, evOp, evA, evTo, evO, evTs, List.cons_append, List.nil_append, List.append_nil, List.replicate, List.getElem?_cons_zero, List.getElem?_cons_succ, List.set_cons_zero, List.set_cons_succ, Option.bind_some, Option.map_some, b_add, b_sub, c_lt, c_le, c_gt, c_ge, f_abs, f_int, f_lenL, f_lenT, decide_true, decide_false, if_true, if_false, Bool.false_eq_true, ite_dec, rngI, rngV, lcV, noOwn, CT.ix, List.all_cons, List.all_nil, Bool.and_true, Sl.own, Bool.not_false, wipeR, backR, bindT, setShs, asgTV, asgLV, called, lend, lent, home, List.take_succ_cons, List.take_zero, List.nodup_nil, List.nodup_cons, List.not_mem_nil, not_false_eq_true, and_self, itemsD, seqOf, Option.toList, enuI, Nat.reduceSub, Nat.reduceAdd, Nat.reduceEqDiff, rsSl, st_z, st_s, sr_z, sr_s, stb_sh, stb_no, stb_ow, d_asgS, d_aug, e_gc, e_sls, slsV, e_callK, asgSV, augV, setShs, permL, List.filterMap_cons, List.filterMap_nil, List.map_cons, List.map_nil, List.drop_zero, List.drop_succ_cons, and_true, true_and, Option.map_none, Option.bind_none, e', np, ns, e, z]
theorem lcW_of {cf : Fn} {tg : CT} {it : CI} {e : CE} {ρ ρ1 ρw ρ5 ρ' : Rho} {xs ds : List D} (h1 : smI cf it ρ = .ok xs ρ1) (h2 : noOwn ρ1 tg.ix = true) (h3 : wipeR ρ1 tg.ix = ρw) (rr : lcRun (lcTurn tg [] (sm cf e)) xs ρw = .ok ds ρ5) (hz : ds.length < sizeL) (h4 : backR ρ1 ρ5 tg.ix = ρ') : lcW cf tg it .nil e ρ = .ok (.fr (.lst ds)) ρ' := by
  unfold lcW lcV
  rw [h1]
  show (if noOwn ρ1 tg.ix = true then (match lcRun (lcTurn tg [] (sm cf e)) xs (wipeR ρ1 tg.ix) with
      | .ok ds ρ5 => if ds.length < sizeL then (Re.ok (Rs.fr (D.lst ds)) (backR ρ1 ρ5 tg.ix) : Re Rs) else Re.st
      | _ => Re.st) else Re.st) = _
  rw [if_pos h2, h3, rr, ← h4]
  exact if_pos hz
theorem pys_nats (l : List Nat) : toPys (natsD l) = some ((l.map fun k => ((k : Nat) : Int)).map PyData.int) := by
  have e : natsD l = (l.map fun k => ((k : Nat) : Int)).map D.int := by unfold natsD; rw [List.map_map]; rfl
  rw [e, pys_ints]
theorem non_in (p : Nat) (l : List Nat) : inD .non (.lst [seen p l]) = some false := by
  rw [n_lst]
  have f : ¬ (flatD .non = true ∧ ([seen p l].all flatD) = true) := fun z => by cases z.2
  rw [if_neg f]
  unfold inN
  have q1 := fun l : List Nat => lay_ints (l.map fun k => ((k : Nat) : Int))
  have q2 := fun l : List Nat => dep_ints (l.map fun k => ((k : Nat) : Int))
  simp only [List.map_map] at q1 q2
  simp only [toPys, seen, toPy, pys_nats, Option.map_some]
  simp [q1, q2, SeqAt.shaped, PyData.canLay0, PyData.canLayAll0, lay_ints, PyData.depth, PyData.depthAll, dep_ints, PyData.eqv]
theorem non_in2 (p : Nat) (l m : List Nat) : inD .non (.lst [seen p l, seen p m]) = some false := by
  rw [n_lst]
  have f : ¬ (flatD .non = true ∧ ([seen p l, seen p m].all flatD) = true) := fun z => by cases z.2
  rw [if_neg f]
  unfold inN
  have q1 := fun l : List Nat => lay_ints (l.map fun k => ((k : Nat) : Int))
  have q2 := fun l : List Nat => dep_ints (l.map fun k => ((k : Nat) : Int))
  simp only [List.map_map] at q1 q2
  simp only [toPys, seen, toPy, pys_nats, Option.map_some]
  simp [q1, q2, SeqAt.shaped, PyData.canLay0, PyData.canLayAll0, lay_ints, PyData.depth, PyData.depthAll, dep_ints, PyData.eqv]
theorem ln_one (p : Int) : lnSD (.lst [.int p]) = some (.sh (.int 1)) := by
  simp [lnSD, toInts, dedI, PyProof.Rows.step_dedup]
theorem ln_two (p : Int) : lnSD (.lst [.int p, .int p]) = some (.sh (.int 1)) := by
  simp [lnSD, toInts, dedI, PyProof.Rows.step_dedup]
theorem bs_len {w N : Nat} {t : Tr} {p : Nat} (h : t.ok w N p) (nd : t.bs.Nodup) (hN : N ≤ 100) : t.bs.length ≤ 100 := by
  have := (nb_flt nd (ok_lt h)).length_eq
  have h2 := List.length_filter_le (fun b => decide (b ∈ t.bs)) (List.range N)
  rw [List.length_range] at h2
  omega
section
variable {w i : Nat} (hw0 : 0 < w) (hw : w ≤ 8) (hi : i ≤ 4)
include hw0 hw hi
theorem seen_ok [Df Δ "_law_is_whole" c__law_is_whole] [Df Δ "_law_put_together" c__law_put_together] [Df Δ "_law_tree_seen" c__law_tree_seen] : ∀ (t : Tr) (p M : Nat), t.ok w (w * i) p → t.bs.Nodup →
    fnN Δ (M + p + 2) "_law_tree_seen" [.sh (shp w i), .sh t.d] = .ok (.sh (seen p t.bs)) [.sh (shp w i), .sh t.d]
  | .lf b, p, M, h, _ => by
    obtain ⟨h1, h2⟩ := h
    subst h2
    rw [df "_law_tree_seen"]
    have c1 := whole_int (Δ := Δ) (M + b % w) (x := ((b : Nat) : Int))
    have wi : w * i ≤ 8 * 4 := Nat.mul_le_mul hw hi
    have e1 : decide ((0 : Int) ≤ ((b : Nat) : Int)) = true := decide_eq_true (by omega)
    have e2 : decide (((b : Nat) : Int) < ((w : Nat) : Int) * ((i : Nat) : Int)) = true := decide_eq_true (by norm_cast)
    have e3 : ((b : Nat) : Int) % ((w : Nat) : Int) = ((b % w : Nat) : Int) := rfl
    have b1 := b_mod (a := ((b : Nat) : Int)) (b := ((w : Nat) : Int)) (by omega)
    have b2 := b_mul (mul_kw (k := w) (w := i) (by omega) (by omega))
    have z1 : 0 + 1 ≤ sizeL := by decide
    have z2 : 0 + 1 + 1 ≤ sizeL := by decide
    simp only [c__law_tree_seen, Tr.d, Tr.bs, seen, natsD, List.map_cons, List.map_nil, chnV, runD, List.length_cons, List.length_nil, d_nil, d_cons, e_var, e_int, e_bl, e_non, e_str, e_fnc, e_bin, e_neg, e_inv, e_cmp, e_chn, e_bop, e_nt, e_ite, e_tup, e_tupS, evSt, e_lst, e_dct, e_dctT, e_popL, d_setd, d_asgL, e_gd, e_spl, e_ptn, e_ix, e_sl, e_bi, e_isi, e_rngL, e_rngT, e_call, e_call0, e_callV, e_dget, e_lc2, e_lc, d_asg, d_asgT, d_par, d_seti, d_app, d_ext, d_exp, d_ifs, d_fors, d_ret, d_retN, d_pass, d_brk, d_cnt, sms, smA, smO, smI, Sm.of, Sm.vt, smVar, rdVar, op1, op2, Re.bd, Re.of, Pl.at, slD?, truD, Rs.d, asgV, biV, evBs, plAll, evEs, evOp, evA, evTo, evO, evTs, List.cons_append, List.nil_append, List.append_nil, List.replicate, List.getElem?_cons_zero, List.getElem?_cons_succ, List.set_cons_zero, List.set_cons_succ, Option.bind_some, Option.map_some, b_add, b_sub, c_lt, c_le, c_gt, c_ge, f_abs, f_int, f_lenL, f_lenT, decide_true, decide_false, if_true, if_false, Bool.false_eq_true, ite_dec, rngI, rngV, lcV, noOwn, CT.ix, List.all_cons, List.all_nil, Bool.and_true, Sl.own, Bool.not_false, wipeR, backR, bindT, setShs, asgTV, asgLV, called, lend, lent, home, List.take_succ_cons, List.take_zero, List.nodup_nil, List.nodup_cons, List.not_mem_nil, not_false_eq_true, and_self, itemsD, seqOf, Option.toList, enuI, Nat.reduceSub, Nat.reduceAdd, Nat.reduceEqDiff, rsSl, st_z, st_s, sr_z, sr_s, stb_sh, stb_no, stb_ow, d_asgS, d_aug, e_gc, e_sls, slsV, e_callK, asgSV, augV, setShs, permL, List.filterMap_cons, List.filterMap_nil, List.map_cons, List.map_nil, List.drop_zero, List.drop_succ_cons, and_true, true_and, Option.map_none, Option.bind_none, c1, e1, e2, xt0, xt1, b1, b2, e3, z1, z2]
  | .rs t, p, M, ⟨q, hp, h⟩, nd => by
    subst hp
    have ih := seen_ok t q M h nd
    show fnN Δ ((M + q + 2) + 1) "_law_tree_seen" _ = _
    rw [df "_law_tree_seen"]
    have wi : w * i ≤ 8 * 4 := Nat.mul_le_mul hw hi
    have hl := bs_len h nd (by omega)
    have c1 : fnN Δ (M + q + 2) "_law_is_whole" _ = _ := whole_tup (Δ := Δ) (M + q + 1) (xs := [.str "raise", t.d])
    have c2 : fnN Δ (M + q + 2) "_law_put_together" _ = _ := put_one (Δ := Δ) (M + q + 1) (p := q) (l := t.bs) hl
    have a1 : isiD .tup (.tup [.str "raise", t.d]) = some true := rfl
    have a2 : biF .len [.tup [.str "raise", t.d]] = some (.sh (.int 2)) := rfl
    have a3 : inD (.tup [.str "raise", .int 2]) (.tup [.tup [.str "raise", .int 2], .tup [.str "join", .int 3]]) = some true := by kernel_rfl
    have a4 : slD (.tup [.str "raise", t.d]) (some 1) none = some (.sh (.tup [t.d])) := rfl
    have l1 := lcW_items (cf := fnN Δ (M + q + 2)) (tg := .nm 3) (it := .ex (.sl (.var 1) (.some (.int 1)) .none)) (e := .call "_law_tree_seen" (.ex (.var 0) (.ex (.var 3) .nil))) (ρ := [.sh (shp w i), .sh (.tup [.str "raise", t.d]), .no, .no]) (ρ1 := [.sh (shp w i), .sh (.tup [.str "raise", t.d]), .no, .no])
      (ρw := [.sh (shp w i), .sh (.tup [.str "raise", t.d]), .no, .no]) (ρ' := [.sh (shp w i), .sh (.tup [.str "raise", t.d]), .no, .no]) (xs := [t.d]) (fun _ => seen q t.bs) (by simp only [i_ex, slV, runD, List.length_cons, List.length_nil, d_nil, d_cons, e_var, e_int, e_bl, e_non, e_str, e_fnc, e_bin, e_neg, e_inv, e_cmp, e_chn, e_bop, e_nt, e_ite, e_tup, e_tupS, evSt, e_lst, e_dct, e_dctT, e_popL, d_setd, d_asgL, e_gd, e_spl, e_ptn, e_ix, e_sl, e_bi, e_isi, e_rngL, e_rngT, e_call, e_call0, e_callV, e_dget, e_lc2, e_lc, d_asg, d_asgT, d_par, d_seti, d_app, d_ext, d_exp, d_ifs, d_fors, d_ret, d_retN, d_pass, d_brk, d_cnt, sms, smA, smO, smI, Sm.of, Sm.vt, smVar, rdVar, op1, op2, Re.bd, Re.of, Pl.at, slD?, truD, Rs.d, asgV, biV, evBs, plAll, evEs, evOp, evA, evTo, evO, evTs, List.cons_append, List.nil_append, List.append_nil, List.replicate, List.getElem?_cons_zero, List.getElem?_cons_succ, List.set_cons_zero, List.set_cons_succ, Option.bind_some, Option.map_some, b_add, b_sub, c_lt, c_le, c_gt, c_ge, f_abs, f_int, f_lenL, f_lenT, decide_true, decide_false, if_true, if_false, Bool.false_eq_true, ite_dec, rngI, rngV, lcV, noOwn, CT.ix, List.all_cons, List.all_nil, Bool.and_true, Sl.own, Bool.not_false, wipeR, backR, bindT, setShs, asgTV, asgLV, called, lend, lent, home, List.take_succ_cons, List.take_zero, List.nodup_nil, List.nodup_cons, List.not_mem_nil, not_false_eq_true, and_self, itemsD, seqOf, Option.toList, enuI, Nat.reduceSub, Nat.reduceAdd, Nat.reduceEqDiff, rsSl, st_z, st_s, sr_z, sr_s, stb_sh, stb_no, stb_ow, d_asgS, d_aug, e_gc, e_sls, slsV, e_callK, asgSV, augV, setShs, permL, List.filterMap_cons, List.filterMap_nil, List.map_cons, List.map_nil, List.drop_zero, List.drop_succ_cons, and_true, true_and, Option.map_none, Option.bind_none, a4]) rfl rfl (fun x hx => by
        obtain rfl := List.mem_singleton.mp hx
        simp only [lcTurn, runD, List.length_cons, List.length_nil, d_nil, d_cons, e_var, e_int, e_bl, e_non, e_str, e_fnc, e_bin, e_neg, e_inv, e_cmp, e_chn, e_bop, e_nt, e_ite, e_tup, e_tupS, evSt, e_lst, e_dct, e_dctT, e_popL, d_setd, d_asgL, e_gd, e_spl, e_ptn, e_ix, e_sl, e_bi, e_isi, e_rngL, e_rngT, e_call, e_call0, e_callV, e_dget, e_lc2, e_lc, d_asg, d_asgT, d_par, d_seti, d_app, d_ext, d_exp, d_ifs, d_fors, d_ret, d_retN, d_pass, d_brk, d_cnt, sms, smA, smO, smI, Sm.of, Sm.vt, smVar, rdVar, op1, op2, Re.bd, Re.of, Pl.at, slD?, truD, Rs.d, asgV, biV, evBs, plAll, evEs, evOp, evA, evTo, evO, evTs, List.cons_append, List.nil_append, List.append_nil, List.replicate, List.getElem?_cons_zero, List.getElem?_cons_succ, List.set_cons_zero, List.set_cons_succ, Option.bind_some, Option.map_some, b_add, b_sub, c_lt, c_le, c_gt, c_ge, f_abs, f_int, f_lenL, f_lenT, decide_true, decide_false, if_true, if_false, Bool.false_eq_true, ite_dec, rngI, rngV, lcV, noOwn, CT.ix, List.all_cons, List.all_nil, Bool.and_true, Sl.own, Bool.not_false, wipeR, backR, bindT, setShs, asgTV, asgLV, called, lend, lent, home, List.take_succ_cons, List.take_zero, List.nodup_nil, List.nodup_cons, List.not_mem_nil, not_false_eq_true, and_self, itemsD, seqOf, Option.toList, enuI, Nat.reduceSub, Nat.reduceAdd, Nat.reduceEqDiff, rsSl, st_z, st_s, sr_z, sr_s, stb_sh, stb_no, stb_ow, d_asgS, d_aug, e_gc, e_sls, slsV, e_callK, asgSV, augV, setShs, permL, List.filterMap_cons, List.filterMap_nil, List.map_cons, List.map_nil, List.drop_zero, List.drop_succ_cons, and_true, true_and, Option.map_none, Option.bind_none, ih]) (by simp) rfl
    have l2 := lcW_items (cf := fnN Δ (M + q + 2)) (tg := .nm 3) (it := .ex (.var 2)) (e := .ix (.var 3) (.int 0)) (ρ := [.sh (shp w i), .sh (.tup [.str "raise", t.d]), .ow (.lst [seen q t.bs]), .no]) (ρ1 := [.sh (shp w i), .sh (.tup [.str "raise", t.d]), .sh (.lst [seen q t.bs]), .no])
      (ρw := [.sh (shp w i), .sh (.tup [.str "raise", t.d]), .sh (.lst [seen q t.bs]), .no]) (ρ' := [.sh (shp w i), .sh (.tup [.str "raise", t.d]), .sh (.lst [seen q t.bs]), .no]) (xs := [seen q t.bs]) (fun _ => .int ((q : Nat) : Int)) (by simp only [i_ex, runD, List.length_cons, List.length_nil, d_nil, d_cons, e_var, e_int, e_bl, e_non, e_str, e_fnc, e_bin, e_neg, e_inv, e_cmp, e_chn, e_bop, e_nt, e_ite, e_tup, e_tupS, evSt, e_lst, e_dct, e_dctT, e_popL, d_setd, d_asgL, e_gd, e_spl, e_ptn, e_ix, e_sl, e_bi, e_isi, e_rngL, e_rngT, e_call, e_call0, e_callV, e_dget, e_lc2, e_lc, d_asg, d_asgT, d_par, d_seti, d_app, d_ext, d_exp, d_ifs, d_fors, d_ret, d_retN, d_pass, d_brk, d_cnt, sms, smA, smO, smI, Sm.of, Sm.vt, smVar, rdVar, op1, op2, Re.bd, Re.of, Pl.at, slD?, truD, Rs.d, asgV, biV, evBs, plAll, evEs, evOp, evA, evTo, evO, evTs, List.cons_append, List.nil_append, List.append_nil, List.replicate, List.getElem?_cons_zero, List.getElem?_cons_succ, List.set_cons_zero, List.set_cons_succ, Option.bind_some, Option.map_some, b_add, b_sub, c_lt, c_le, c_gt, c_ge, f_abs, f_int, f_lenL, f_lenT, decide_true, decide_false, if_true, if_false, Bool.false_eq_true, ite_dec, rngI, rngV, lcV, noOwn, CT.ix, List.all_cons, List.all_nil, Bool.and_true, Sl.own, Bool.not_false, wipeR, backR, bindT, setShs, asgTV, asgLV, called, lend, lent, home, List.take_succ_cons, List.take_zero, List.nodup_nil, List.nodup_cons, List.not_mem_nil, not_false_eq_true, and_self, itemsD, seqOf, Option.toList, enuI, Nat.reduceSub, Nat.reduceAdd, Nat.reduceEqDiff, rsSl, st_z, st_s, sr_z, sr_s, stb_sh, stb_no, stb_ow, d_asgS, d_aug, e_gc, e_sls, slsV, e_callK, asgSV, augV, setShs, permL, List.filterMap_cons, List.filterMap_nil, List.map_cons, List.map_nil, List.drop_zero, List.drop_succ_cons, and_true, true_and, Option.map_none, Option.bind_none]) rfl rfl (fun x hx => by
        obtain rfl := List.mem_singleton.mp hx
        simp only [lcTurn, seen, runD, List.length_cons, List.length_nil, d_nil, d_cons, e_var, e_int, e_bl, e_non, e_str, e_fnc, e_bin, e_neg, e_inv, e_cmp, e_chn, e_bop, e_nt, e_ite, e_tup, e_tupS, evSt, e_lst, e_dct, e_dctT, e_popL, d_setd, d_asgL, e_gd, e_spl, e_ptn, e_ix, e_sl, e_bi, e_isi, e_rngL, e_rngT, e_call, e_call0, e_callV, e_dget, e_lc2, e_lc, d_asg, d_asgT, d_par, d_seti, d_app, d_ext, d_exp, d_ifs, d_fors, d_ret, d_retN, d_pass, d_brk, d_cnt, sms, smA, smO, smI, Sm.of, Sm.vt, smVar, rdVar, op1, op2, Re.bd, Re.of, Pl.at, slD?, truD, Rs.d, asgV, biV, evBs, plAll, evEs, evOp, evA, evTo, evO, evTs, List.cons_append, List.nil_append, List.append_nil, List.replicate, List.getElem?_cons_zero, List.getElem?_cons_succ, List.set_cons_zero, List.set_cons_succ, Option.bind_some, Option.map_some, b_add, b_sub, c_lt, c_le, c_gt, c_ge, f_abs, f_int, f_lenL, f_lenT, decide_true, decide_false, if_true, if_false, Bool.false_eq_true, ite_dec, rngI, rngV, lcV, noOwn, CT.ix, List.all_cons, List.all_nil, Bool.and_true, Sl.own, Bool.not_false, wipeR, backR, bindT, setShs, asgTV, asgLV, called, lend, lent, home, List.take_succ_cons, List.take_zero, List.nodup_nil, List.nodup_cons, List.not_mem_nil, not_false_eq_true, and_self, itemsD, seqOf, Option.toList, enuI, Nat.reduceSub, Nat.reduceAdd, Nat.reduceEqDiff, rsSl, st_z, st_s, sr_z, sr_s, stb_sh, stb_no, stb_ow, d_asgS, d_aug, e_gc, e_sls, slsV, e_callK, asgSV, augV, setShs, permL, List.filterMap_cons, List.filterMap_nil, List.map_cons, List.map_nil, List.drop_zero, List.drop_succ_cons, and_true, true_and, Option.map_none, Option.bind_none, xt0]) (by simp) rfl
    simp only [List.map_cons, List.map_nil] at l1 l2
    have z2 : 0 + 1 + 1 ≤ sizeL := by decide
    have z0 : 0 ≤ sizeL := by decide
    have e5 : ((q : Nat) : Int) + 1 = ((q + 1 : Nat) : Int) := by omega
    have e6 : ixD (seen q t.bs) (.int 0) = some (.int ((q : Nat) : Int)) := xt0
    simp only [c__law_tree_seen, Tr.d, Tr.bs, runD, List.length_cons, List.length_nil, d_nil, d_cons, e_var, e_int, e_bl, e_non, e_str, e_fnc, e_bin, e_neg, e_inv, e_cmp, e_chn, e_bop, e_nt, e_ite, e_tup, e_tupS, evSt, e_lst, e_dct, e_dctT, e_popL, d_setd, d_asgL, e_gd, e_spl, e_ptn, e_ix, e_sl, e_bi, e_isi, e_rngL, e_rngT, e_call, e_call0, e_callV, e_dget, e_lc2, e_lc, d_asg, d_asgT, d_par, d_seti, d_app, d_ext, d_exp, d_ifs, d_fors, d_ret, d_retN, d_pass, d_brk, d_cnt, sms, smA, smO, smI, Sm.of, Sm.vt, smVar, rdVar, op1, op2, Re.bd, Re.of, Pl.at, slD?, truD, Rs.d, asgV, biV, evBs, plAll, evEs, evOp, evA, evTo, evO, evTs, List.cons_append, List.nil_append, List.append_nil, List.replicate, List.getElem?_cons_zero, List.getElem?_cons_succ, List.set_cons_zero, List.set_cons_succ, Option.bind_some, Option.map_some, b_add, b_sub, c_lt, c_le, c_gt, c_ge, f_abs, f_int, f_lenL, f_lenT, decide_true, decide_false, if_true, if_false, Bool.false_eq_true, ite_dec, rngI, rngV, lcV, noOwn, CT.ix, List.all_cons, List.all_nil, Bool.and_true, Sl.own, Bool.not_false, wipeR, backR, bindT, setShs, asgTV, asgLV, called, lend, lent, home, List.take_succ_cons, List.take_zero, List.nodup_nil, List.nodup_cons, List.not_mem_nil, not_false_eq_true, and_self, itemsD, seqOf, Option.toList, enuI, Nat.reduceSub, Nat.reduceAdd, Nat.reduceEqDiff, rsSl, st_z, st_s, sr_z, sr_s, stb_sh, stb_no, stb_ow, d_asgS, d_aug, e_gc, e_sls, slsV, e_callK, asgSV, augV, setShs, permL, List.filterMap_cons, List.filterMap_nil, List.map_cons, List.map_nil, List.drop_zero, List.drop_succ_cons, and_true, true_and, Option.map_none, Option.bind_none, e_lnS, c1, c2, a1, a2, a3, a4, isi_str, xt0, xl0, e6, eq_empty, c_notIn, c_in, l1, l2, non_in, ln_one, z0, z2, e5, Bool.not_true, Int.reduceLT]
    rfl
  | .jn t u, p, M, ⟨q, hp, h1, h2⟩, nd => by
    subst hp
    obtain ⟨d1, d2, d3⟩ := List.nodup_append.mp (show (t.bs ++ u.bs).Nodup from nd)
    have ih1 := seen_ok t q M h1 d1
    have ih2 := seen_ok u q M h2 d2
    show fnN Δ ((M + q + 2) + 1) "_law_tree_seen" _ = _
    rw [df "_law_tree_seen"]
    have wi : w * i ≤ 8 * 4 := Nat.mul_le_mul hw hi
    have hl1 := bs_len h1 d1 (by omega)
    have hl2 := bs_len h2 d2 (by omega)
    have c1 : fnN Δ (M + q + 2) "_law_is_whole" _ = _ := whole_tup (Δ := Δ) (M + q + 1) (xs := [.str "join", t.d, u.d])
    have c2 : fnN Δ (M + q + 2) "_law_put_together" _ = _ := put_two (Δ := Δ) (M + q + 1) (p := q) (l := t.bs) (m := u.bs) hl1 hl2
    have a1 : isiD .tup (.tup [.str "join", t.d, u.d]) = some true := rfl
    have a2 : biF .len [.tup [.str "join", t.d, u.d]] = some (.sh (.int 3)) := rfl
    have a3 : inD (.tup [.str "join", .int 3]) (.tup [.tup [.str "raise", .int 2], .tup [.str "join", .int 3]]) = some true := by kernel_rfl
    have a4 : slD (.tup [.str "join", t.d, u.d]) (some 1) none = some (.sh (.tup [t.d, u.d])) := rfl
    have l1 : lcW (fnN Δ (M + q + 2)) (.nm 3) (.ex (.sl (.var 1) (.some (.int 1)) .none)) .nil (.call "_law_tree_seen" (.ex (.var 0) (.ex (.var 3) .nil))) [.sh (shp w i), .sh (.tup [.str "join", t.d, u.d]), .no, .no] = .ok (.fr (.lst [seen q t.bs, seen q u.bs])) [.sh (shp w i), .sh (.tup [.str "join", t.d, u.d]), .no, .no] := by
      have r : smI (fnN Δ (M + q + 2)) (.ex (.sl (.var 1) (.some (.int 1)) .none)) [.sh (shp w i), .sh (.tup [.str "join", t.d, u.d]), .no, .no] = .ok [t.d, u.d] [.sh (shp w i), .sh (.tup [.str "join", t.d, u.d]), .no, .no] := by simp only [i_ex, slV, runD, List.length_cons, List.length_nil, d_nil, d_cons, e_var, e_int, e_bl, e_non, e_str, e_fnc, e_bin, e_neg, e_inv, e_cmp, e_chn, e_bop, e_nt, e_ite, e_tup, e_tupS, evSt, e_lst, e_dct, e_dctT, e_popL, d_setd, d_asgL, e_gd, e_spl, e_ptn, e_ix, e_sl, e_bi, e_isi, e_rngL, e_rngT, e_call, e_call0, e_callV, e_dget, e_lc2, e_lc, d_asg, d_asgT, d_par, d_seti, d_app, d_ext, d_exp, d_ifs, d_fors, d_ret, d_retN, d_pass, d_brk, d_cnt, sms, smA, smO, smI, Sm.of, Sm.vt, smVar, rdVar, op1, op2, Re.bd, Re.of, Pl.at, slD?, truD, Rs.d, asgV, biV, evBs, plAll, evEs, evOp, evA, evTo, evO, evTs, List.cons_append, List.nil_append, List.append_nil, List.replicate, List.getElem?_cons_zero, List.getElem?_cons_succ, List.set_cons_zero, List.set_cons_succ, Option.bind_some, Option.map_some, b_add, b_sub, c_lt, c_le, c_gt, c_ge, f_abs, f_int, f_lenL, f_lenT, decide_true, decide_false, if_true, if_false, Bool.false_eq_true, ite_dec, rngI, rngV, lcV, noOwn, CT.ix, List.all_cons, List.all_nil, Bool.and_true, Sl.own, Bool.not_false, wipeR, backR, bindT, setShs, asgTV, asgLV, called, lend, lent, home, List.take_succ_cons, List.take_zero, List.nodup_nil, List.nodup_cons, List.not_mem_nil, not_false_eq_true, and_self, itemsD, seqOf, Option.toList, enuI, Nat.reduceSub, Nat.reduceAdd, Nat.reduceEqDiff, rsSl, st_z, st_s, sr_z, sr_s, stb_sh, stb_no, stb_ow, d_asgS, d_aug, e_gc, e_sls, slsV, e_callK, asgSV, augV, setShs, permL, List.filterMap_cons, List.filterMap_nil, List.map_cons, List.map_nil, List.drop_zero, List.drop_succ_cons, and_true, true_and, Option.map_none, Option.bind_none, a4]
      have t1 : lcTurn (.nm 3) [] (sm (fnN Δ (M + q + 2)) (.call "_law_tree_seen" (.ex (.var 0) (.ex (.var 3) .nil)))) t.d [.sh (shp w i), .sh (.tup [.str "join", t.d, u.d]), .no, .no] = .ok (some (seen q t.bs)) [.sh (shp w i), .sh (.tup [.str "join", t.d, u.d]), .no, .no] := by simp only [lcTurn, runD, List.length_cons, List.length_nil, d_nil, d_cons, e_var, e_int, e_bl, e_non, e_str, e_fnc, e_bin, e_neg, e_inv, e_cmp, e_chn, e_bop, e_nt, e_ite, e_tup, e_tupS, evSt, e_lst, e_dct, e_dctT, e_popL, d_setd, d_asgL, e_gd, e_spl, e_ptn, e_ix, e_sl, e_bi, e_isi, e_rngL, e_rngT, e_call, e_call0, e_callV, e_dget, e_lc2, e_lc, d_asg, d_asgT, d_par, d_seti, d_app, d_ext, d_exp, d_ifs, d_fors, d_ret, d_retN, d_pass, d_brk, d_cnt, sms, smA, smO, smI, Sm.of, Sm.vt, smVar, rdVar, op1, op2, Re.bd, Re.of, Pl.at, slD?, truD, Rs.d, asgV, biV, evBs, plAll, evEs, evOp, evA, evTo, evO, evTs, List.cons_append, List.nil_append, List.append_nil, List.replicate, List.getElem?_cons_zero, List.getElem?_cons_succ, List.set_cons_zero, List.set_cons_succ, Option.bind_some, Option.map_some, b_add, b_sub, c_lt, c_le, c_gt, c_ge, f_abs, f_int, f_lenL, f_lenT, decide_true, decide_false, if_true, if_false, Bool.false_eq_true, ite_dec, rngI, rngV, lcV, noOwn, CT.ix, List.all_cons, List.all_nil, Bool.and_true, Sl.own, Bool.not_false, wipeR, backR, bindT, setShs, asgTV, asgLV, called, lend, lent, home, List.take_succ_cons, List.take_zero, List.nodup_nil, List.nodup_cons, List.not_mem_nil, not_false_eq_true, and_self, itemsD, seqOf, Option.toList, enuI, Nat.reduceSub, Nat.reduceAdd, Nat.reduceEqDiff, rsSl, st_z, st_s, sr_z, sr_s, stb_sh, stb_no, stb_ow, d_asgS, d_aug, e_gc, e_sls, slsV, e_callK, asgSV, augV, setShs, permL, List.filterMap_cons, List.filterMap_nil, List.map_cons, List.map_nil, List.drop_zero, List.drop_succ_cons, and_true, true_and, Option.map_none, Option.bind_none, ih1]
      have t2 : lcTurn (.nm 3) [] (sm (fnN Δ (M + q + 2)) (.call "_law_tree_seen" (.ex (.var 0) (.ex (.var 3) .nil)))) u.d [.sh (shp w i), .sh (.tup [.str "join", t.d, u.d]), .no, .no] = .ok (some (seen q u.bs)) [.sh (shp w i), .sh (.tup [.str "join", t.d, u.d]), .no, .no] := by simp only [lcTurn, runD, List.length_cons, List.length_nil, d_nil, d_cons, e_var, e_int, e_bl, e_non, e_str, e_fnc, e_bin, e_neg, e_inv, e_cmp, e_chn, e_bop, e_nt, e_ite, e_tup, e_tupS, evSt, e_lst, e_dct, e_dctT, e_popL, d_setd, d_asgL, e_gd, e_spl, e_ptn, e_ix, e_sl, e_bi, e_isi, e_rngL, e_rngT, e_call, e_call0, e_callV, e_dget, e_lc2, e_lc, d_asg, d_asgT, d_par, d_seti, d_app, d_ext, d_exp, d_ifs, d_fors, d_ret, d_retN, d_pass, d_brk, d_cnt, sms, smA, smO, smI, Sm.of, Sm.vt, smVar, rdVar, op1, op2, Re.bd, Re.of, Pl.at, slD?, truD, Rs.d, asgV, biV, evBs, plAll, evEs, evOp, evA, evTo, evO, evTs, List.cons_append, List.nil_append, List.append_nil, List.replicate, List.getElem?_cons_zero, List.getElem?_cons_succ, List.set_cons_zero, List.set_cons_succ, Option.bind_some, Option.map_some, b_add, b_sub, c_lt, c_le, c_gt, c_ge, f_abs, f_int, f_lenL, f_lenT, decide_true, decide_false, if_true, if_false, Bool.false_eq_true, ite_dec, rngI, rngV, lcV, noOwn, CT.ix, List.all_cons, List.all_nil, Bool.and_true, Sl.own, Bool.not_false, wipeR, backR, bindT, setShs, asgTV, asgLV, called, lend, lent, home, List.take_succ_cons, List.take_zero, List.nodup_nil, List.nodup_cons, List.not_mem_nil, not_false_eq_true, and_self, itemsD, seqOf, Option.toList, enuI, Nat.reduceSub, Nat.reduceAdd, Nat.reduceEqDiff, rsSl, st_z, st_s, sr_z, sr_s, stb_sh, stb_no, stb_ow, d_asgS, d_aug, e_gc, e_sls, slsV, e_callK, asgSV, augV, setShs, permL, List.filterMap_cons, List.filterMap_nil, List.map_cons, List.map_nil, List.drop_zero, List.drop_succ_cons, and_true, true_and, Option.map_none, Option.bind_none, ih2]
      have rr : lcRun (lcTurn (.nm 3) [] (sm (fnN Δ (M + q + 2)) (.call "_law_tree_seen" (.ex (.var 0) (.ex (.var 3) .nil))))) [t.d, u.d] [.sh (shp w i), .sh (.tup [.str "join", t.d, u.d]), .no, .no] = .ok [seen q t.bs, seen q u.bs] [.sh (shp w i), .sh (.tup [.str "join", t.d, u.d]), .no, .no] := by
        simp only [lcRun, t1, t2]
        rfl
      exact lcW_of r rfl rfl rr (by show 2 < 16777216; decide) rfl
    have l2 := lcW_items (cf := fnN Δ (M + q + 2)) (tg := .nm 3) (it := .ex (.var 2)) (e := .ix (.var 3) (.int 0)) (ρ := [.sh (shp w i), .sh (.tup [.str "join", t.d, u.d]), .ow (.lst [seen q t.bs, seen q u.bs]), .no]) (ρ1 := [.sh (shp w i), .sh (.tup [.str "join", t.d, u.d]), .sh (.lst [seen q t.bs, seen q u.bs]), .no])
      (ρw := [.sh (shp w i), .sh (.tup [.str "join", t.d, u.d]), .sh (.lst [seen q t.bs, seen q u.bs]), .no]) (ρ' := [.sh (shp w i), .sh (.tup [.str "join", t.d, u.d]), .sh (.lst [seen q t.bs, seen q u.bs]), .no]) (xs := [seen q t.bs, seen q u.bs]) (fun _ => .int ((q : Nat) : Int)) (by simp only [i_ex, runD, List.length_cons, List.length_nil, d_nil, d_cons, e_var, e_int, e_bl, e_non, e_str, e_fnc, e_bin, e_neg, e_inv, e_cmp, e_chn, e_bop, e_nt, e_ite, e_tup, e_tupS, evSt, e_lst, e_dct, e_dctT, e_popL, d_setd, d_asgL, e_gd, e_spl, e_ptn, e_ix, e_sl, e_bi, e_isi, e_rngL, e_rngT, e_call, e_call0, e_callV, e_dget, e_lc2, e_lc, d_asg, d_asgT, d_par, d_seti, d_app, d_ext, d_exp, d_ifs, d_fors, d_ret, d_retN, d_pass, d_brk, d_cnt, sms, smA, smO, smI, Sm.of, Sm.vt, smVar, rdVar, op1, op2, Re.bd, Re.of, Pl.at, slD?, truD, Rs.d, asgV, biV, evBs, plAll, evEs, evOp, evA, evTo, evO, evTs, List.cons_append, List.nil_append, List.append_nil, List.replicate, List.getElem?_cons_zero, List.getElem?_cons_succ, List.set_cons_zero, List.set_cons_succ, Option.bind_some, Option.map_some, b_add, b_sub, c_lt, c_le, c_gt, c_ge, f_abs, f_int, f_lenL, f_lenT, decide_true, decide_false, if_true, if_false, Bool.false_eq_true, ite_dec, rngI, rngV, lcV, noOwn, CT.ix, List.all_cons, List.all_nil, Bool.and_true, Sl.own, Bool.not_false, wipeR, backR, bindT, setShs, asgTV, asgLV, called, lend, lent, home, List.take_succ_cons, List.take_zero, List.nodup_nil, List.nodup_cons, List.not_mem_nil, not_false_eq_true, and_self, itemsD, seqOf, Option.toList, enuI, Nat.reduceSub, Nat.reduceAdd, Nat.reduceEqDiff, rsSl, st_z, st_s, sr_z, sr_s, stb_sh, stb_no, stb_ow, d_asgS, d_aug, e_gc, e_sls, slsV, e_callK, asgSV, augV, setShs, permL, List.filterMap_cons, List.filterMap_nil, List.map_cons, List.map_nil, List.drop_zero, List.drop_succ_cons, and_true, true_and, Option.map_none, Option.bind_none]) rfl rfl (fun x hx => by
        have hx : x = seen q t.bs ∨ x = seen q u.bs := by simpa using hx
        rcases hx with rfl | rfl <;> simp only [lcTurn, seen, runD, List.length_cons, List.length_nil, d_nil, d_cons, e_var, e_int, e_bl, e_non, e_str, e_fnc, e_bin, e_neg, e_inv, e_cmp, e_chn, e_bop, e_nt, e_ite, e_tup, e_tupS, evSt, e_lst, e_dct, e_dctT, e_popL, d_setd, d_asgL, e_gd, e_spl, e_ptn, e_ix, e_sl, e_bi, e_isi, e_rngL, e_rngT, e_call, e_call0, e_callV, e_dget, e_lc2, e_lc, d_asg, d_asgT, d_par, d_seti, d_app, d_ext, d_exp, d_ifs, d_fors, d_ret, d_retN, d_pass, d_brk, d_cnt, sms, smA, smO, smI, Sm.of, Sm.vt, smVar, rdVar, op1, op2, Re.bd, Re.of, Pl.at, slD?, truD, Rs.d, asgV, biV, evBs, plAll, evEs, evOp, evA, evTo, evO, evTs, List.cons_append, List.nil_append, List.append_nil, List.replicate, List.getElem?_cons_zero, List.getElem?_cons_succ, List.set_cons_zero, List.set_cons_succ, Option.bind_some, Option.map_some, b_add, b_sub, c_lt, c_le, c_gt, c_ge, f_abs, f_int, f_lenL, f_lenT, decide_true, decide_false, if_true, if_false, Bool.false_eq_true, ite_dec, rngI, rngV, lcV, noOwn, CT.ix, List.all_cons, List.all_nil, Bool.and_true, Sl.own, Bool.not_false, wipeR, backR, bindT, setShs, asgTV, asgLV, called, lend, lent, home, List.take_succ_cons, List.take_zero, List.nodup_nil, List.nodup_cons, List.not_mem_nil, not_false_eq_true, and_self, itemsD, seqOf, Option.toList, enuI, Nat.reduceSub, Nat.reduceAdd, Nat.reduceEqDiff, rsSl, st_z, st_s, sr_z, sr_s, stb_sh, stb_no, stb_ow, d_asgS, d_aug, e_gc, e_sls, slsV, e_callK, asgSV, augV, setShs, permL, List.filterMap_cons, List.filterMap_nil, List.map_cons, List.map_nil, List.drop_zero, List.drop_succ_cons, and_true, true_and, Option.map_none, Option.bind_none, xt0]) (by simp) rfl
    simp only [List.map_cons, List.map_nil] at l2
    have z2 : 0 + 1 + 1 ≤ sizeL := by decide
    have z0 : 0 ≤ sizeL := by decide
    have e5 : ((q : Nat) : Int) + 1 = ((q + 1 : Nat) : Int) := by omega
    have e6 : ixD (seen q t.bs) (.int 0) = some (.int ((q : Nat) : Int)) := xt0
    simp only [c__law_tree_seen, Tr.d, Tr.bs, runD, List.length_cons, List.length_nil, d_nil, d_cons, e_var, e_int, e_bl, e_non, e_str, e_fnc, e_bin, e_neg, e_inv, e_cmp, e_chn, e_bop, e_nt, e_ite, e_tup, e_tupS, evSt, e_lst, e_dct, e_dctT, e_popL, d_setd, d_asgL, e_gd, e_spl, e_ptn, e_ix, e_sl, e_bi, e_isi, e_rngL, e_rngT, e_call, e_call0, e_callV, e_dget, e_lc2, e_lc, d_asg, d_asgT, d_par, d_seti, d_app, d_ext, d_exp, d_ifs, d_fors, d_ret, d_retN, d_pass, d_brk, d_cnt, sms, smA, smO, smI, Sm.of, Sm.vt, smVar, rdVar, op1, op2, Re.bd, Re.of, Pl.at, slD?, truD, Rs.d, asgV, biV, evBs, plAll, evEs, evOp, evA, evTo, evO, evTs, List.cons_append, List.nil_append, List.append_nil, List.replicate, List.getElem?_cons_zero, List.getElem?_cons_succ, List.set_cons_zero, List.set_cons_succ, Option.bind_some, Option.map_some, b_add, b_sub, c_lt, c_le, c_gt, c_ge, f_abs, f_int, f_lenL, f_lenT, decide_true, decide_false, if_true, if_false, Bool.false_eq_true, ite_dec, rngI, rngV, lcV, noOwn, CT.ix, List.all_cons, List.all_nil, Bool.and_true, Sl.own, Bool.not_false, wipeR, backR, bindT, setShs, asgTV, asgLV, called, lend, lent, home, List.take_succ_cons, List.take_zero, List.nodup_nil, List.nodup_cons, List.not_mem_nil, not_false_eq_true, and_self, itemsD, seqOf, Option.toList, enuI, Nat.reduceSub, Nat.reduceAdd, Nat.reduceEqDiff, rsSl, st_z, st_s, sr_z, sr_s, stb_sh, stb_no, stb_ow, d_asgS, d_aug, e_gc, e_sls, slsV, e_callK, asgSV, augV, setShs, permL, List.filterMap_cons, List.filterMap_nil, List.map_cons, List.map_nil, List.drop_zero, List.drop_succ_cons, and_true, true_and, Option.map_none, Option.bind_none, e_lnS, c1, c2, a1, a2, a3, a4, isi_str, xt0, xl0, e6, eq_empty, c_notIn, c_in, l1, l2, non_in2, ln_two, z0, z2, e5, Bool.not_true, Int.reduceLT]
    rfl
theorem ded_of (l : List Nat) (nd : l.Nodup) : lnSD (.lst (natsD l)) = if l.length ≤ 4000 then some (.sh (.int ((l.length : Nat) : Int))) else none := by
  have e : toInts (natsD l) = some (l.map fun k => ((k : Nat) : Int)) := toInts_map (fun k : Nat => ((k : Nat) : Int)) l
  show (toInts (natsD l)).bind _ = _
  rw [e]
  have nd2 : (l.map fun k => ((k : Nat) : Int)).Nodup := List.Pairwise.map _ (fun a b h => by omega) nd
  have e2 : dedI (l.map fun k => ((k : Nat) : Int)) = l.map fun k => ((k : Nat) : Int) := by
    rw [← firstMet_all, RZ.firstMet_nodup nd2 _ (Nat.le_refl _), List.take_length]
  show (if (l.map fun k => ((k : Nat) : Int)).length ≤ 4000 then some (Rs.sh (D.int ((dedI (l.map fun k => ((k : Nat) : Int))).length : Nat))) else none) = _
  rw [e2, List.length_map]
theorem is_ok [Df Δ "_law_is_whole" c__law_is_whole] [Df Δ "_law_put_together" c__law_put_together] [Df Δ "_law_tree_seen" c__law_tree_seen] [Df Δ "_law_is_tree" c__law_is_tree] {x : Nat} (t : Tr) (p M : Nat) (h : t.ok w (w * i) p) (nd : t.bs.Nodup) (e : nb t.bs = x) :
    fnN Δ (M + p + 3) "_law_is_tree" [.sh (shp w i), .sh (.int ((x : Nat) : Int)), .sh (.int ((p : Nat) : Int)), .sh t.d] = .ok (.sh (.bl true)) [.sh (shp w i), .sh (.int ((x : Nat) : Int)), .sh (.int ((p : Nat) : Int)), .sh t.d] := by
  rw [df "_law_is_tree"]
  have wi : w * i ≤ 8 * 4 := Nat.mul_le_mul hw hi
  have hl := bs_len h nd (by omega)
  have c1 := seen_ok (Δ := Δ) hw0 hw hi t p M h nd
  have e6 : ixD (seen p t.bs) (.int 0) = some (.int ((p : Nat) : Int)) := xt0
  have e7 : ixD (seen p t.bs) (.int 1) = some (.lst (natsD t.bs)) := xt1
  have e8 : cmpop .Is (seen p t.bs) .non = some false := rfl
  have e9 : decide (((p : Nat) : Int) = ((p : Nat) : Int)) = true := decide_eq_true rfl
  have e10 : decide (((t.bs.length : Nat) : Int) = ((t.bs.length : Nat) : Int)) = true := decide_eq_true rfl
  have e11 : decide (((x : Nat) : Int) = ((x : Nat) : Int)) = true := decide_eq_true rfl
  have dd : lnSD (.lst (natsD t.bs)) = some (.sh (.int ((t.bs.length : Nat) : Int))) := by rw [ded_of hw0 hw hi _ nd, if_pos (by omega)]
  have ln : (natsD t.bs).length = t.bs.length := by unfold natsD; rw [List.length_map]
  have l1 := lcW_nats (cf := fnN Δ (M + p + 2)) (j := 6) (it := .ex (.var 5)) (e := .bin .LShift (.int 1) (.var 6)) (ρ := [.sh (shp w i), .sh (.int ((x : Nat) : Int)), .sh (.int ((p : Nat) : Int)), .sh t.d, .sh (seen p t.bs), .sh (.lst (natsD t.bs)), .no])
    (ρ1 := [.sh (shp w i), .sh (.int ((x : Nat) : Int)), .sh (.int ((p : Nat) : Int)), .sh t.d, .sh (seen p t.bs), .sh (.lst (natsD t.bs)), .no]) (ρw := [.sh (shp w i), .sh (.int ((x : Nat) : Int)), .sh (.int ((p : Nat) : Int)), .sh t.d, .sh (seen p t.bs), .sh (.lst (natsD t.bs)), .no])
    (ρ' := [.sh (shp w i), .sh (.int ((x : Nat) : Int)), .sh (.int ((p : Nat) : Int)), .sh t.d, .sh (seen p t.bs), .sh (.lst (natsD t.bs)), .no]) (l := t.bs) (fun k => D.int ((2 ^ k : Nat) : Int)) (by simp only [i_ex, runD, List.length_cons, List.length_nil, d_nil, d_cons, e_var, e_int, e_bl, e_non, e_str, e_fnc, e_bin, e_neg, e_inv, e_cmp, e_chn, e_bop, e_nt, e_ite, e_tup, e_tupS, evSt, e_lst, e_dct, e_dctT, e_popL, d_setd, d_asgL, e_gd, e_spl, e_ptn, e_ix, e_sl, e_bi, e_isi, e_rngL, e_rngT, e_call, e_call0, e_callV, e_dget, e_lc2, e_lc, d_asg, d_asgT, d_par, d_seti, d_app, d_ext, d_exp, d_ifs, d_fors, d_ret, d_retN, d_pass, d_brk, d_cnt, sms, smA, smO, smI, Sm.of, Sm.vt, smVar, rdVar, op1, op2, Re.bd, Re.of, Pl.at, slD?, truD, Rs.d, asgV, biV, evBs, plAll, evEs, evOp, evA, evTo, evO, evTs, List.cons_append, List.nil_append, List.append_nil, List.replicate, List.getElem?_cons_zero, List.getElem?_cons_succ, List.set_cons_zero, List.set_cons_succ, Option.bind_some, Option.map_some, b_add, b_sub, c_lt, c_le, c_gt, c_ge, f_abs, f_int, f_lenL, f_lenT, decide_true, decide_false, if_true, if_false, Bool.false_eq_true, ite_dec, rngI, rngV, lcV, noOwn, CT.ix, List.all_cons, List.all_nil, Bool.and_true, Sl.own, Bool.not_false, wipeR, backR, bindT, setShs, asgTV, asgLV, called, lend, lent, home, List.take_succ_cons, List.take_zero, List.nodup_nil, List.nodup_cons, List.not_mem_nil, not_false_eq_true, and_self, itemsD, seqOf, Option.toList, enuI, Nat.reduceSub, Nat.reduceAdd, Nat.reduceEqDiff, rsSl, st_z, st_s, sr_z, sr_s, stb_sh, stb_no, stb_ow, d_asgS, d_aug, e_gc, e_sls, slsV, e_callK, asgSV, augV, setShs, permL, List.filterMap_cons, List.filterMap_nil, List.map_cons, List.map_nil, List.drop_zero, List.drop_succ_cons, and_true, true_and, Option.map_none, Option.bind_none]) rfl rfl (fun k hk => by
      have hk := ok_lt h k hk
      have s1 := shl_one (k := k) (by omega)
      simp only [lcTurn, runD, List.length_cons, List.length_nil, d_nil, d_cons, e_var, e_int, e_bl, e_non, e_str, e_fnc, e_bin, e_neg, e_inv, e_cmp, e_chn, e_bop, e_nt, e_ite, e_tup, e_tupS, evSt, e_lst, e_dct, e_dctT, e_popL, d_setd, d_asgL, e_gd, e_spl, e_ptn, e_ix, e_sl, e_bi, e_isi, e_rngL, e_rngT, e_call, e_call0, e_callV, e_dget, e_lc2, e_lc, d_asg, d_asgT, d_par, d_seti, d_app, d_ext, d_exp, d_ifs, d_fors, d_ret, d_retN, d_pass, d_brk, d_cnt, sms, smA, smO, smI, Sm.of, Sm.vt, smVar, rdVar, op1, op2, Re.bd, Re.of, Pl.at, slD?, truD, Rs.d, asgV, biV, evBs, plAll, evEs, evOp, evA, evTo, evO, evTs, List.cons_append, List.nil_append, List.append_nil, List.replicate, List.getElem?_cons_zero, List.getElem?_cons_succ, List.set_cons_zero, List.set_cons_succ, Option.bind_some, Option.map_some, b_add, b_sub, c_lt, c_le, c_gt, c_ge, f_abs, f_int, f_lenL, f_lenT, decide_true, decide_false, if_true, if_false, Bool.false_eq_true, ite_dec, rngI, rngV, lcV, noOwn, CT.ix, List.all_cons, List.all_nil, Bool.and_true, Sl.own, Bool.not_false, wipeR, backR, bindT, setShs, asgTV, asgLV, called, lend, lent, home, List.take_succ_cons, List.take_zero, List.nodup_nil, List.nodup_cons, List.not_mem_nil, not_false_eq_true, and_self, itemsD, seqOf, Option.toList, enuI, Nat.reduceSub, Nat.reduceAdd, Nat.reduceEqDiff, rsSl, st_z, st_s, sr_z, sr_s, stb_sh, stb_no, stb_ow, d_asgS, d_aug, e_gc, e_sls, slsV, e_callK, asgSV, augV, setShs, permL, List.filterMap_cons, List.filterMap_nil, List.map_cons, List.map_nil, List.drop_zero, List.drop_succ_cons, and_true, true_and, Option.map_none, Option.bind_none, b_shl s1, toNat_nat, one_pow]) (by omega) rfl
  have f1 := f_sum (fun k => 2 ^ k) t.bs
  have e12 : (t.bs.map fun k => 2 ^ k).sum = x := e
  rw [e12] at f1
  simp only [c__law_is_tree, runD, List.length_cons, List.length_nil, d_nil, d_cons, e_var, e_int, e_bl, e_non, e_str, e_fnc, e_bin, e_neg, e_inv, e_cmp, e_chn, e_bop, e_nt, e_ite, e_tup, e_tupS, evSt, e_lst, e_dct, e_dctT, e_popL, d_setd, d_asgL, e_gd, e_spl, e_ptn, e_ix, e_sl, e_bi, e_isi, e_rngL, e_rngT, e_call, e_call0, e_callV, e_dget, e_lc2, e_lc, d_asg, d_asgT, d_par, d_seti, d_app, d_ext, d_exp, d_ifs, d_fors, d_ret, d_retN, d_pass, d_brk, d_cnt, sms, smA, smO, smI, Sm.of, Sm.vt, smVar, rdVar, op1, op2, Re.bd, Re.of, Pl.at, slD?, truD, Rs.d, asgV, biV, evBs, plAll, evEs, evOp, evA, evTo, evO, evTs, List.cons_append, List.nil_append, List.append_nil, List.replicate, List.getElem?_cons_zero, List.getElem?_cons_succ, List.set_cons_zero, List.set_cons_succ, Option.bind_some, Option.map_some, b_add, b_sub, c_lt, c_le, c_gt, c_ge, f_abs, f_int, f_lenL, f_lenT, decide_true, decide_false, if_true, if_false, Bool.false_eq_true, ite_dec, rngI, rngV, lcV, noOwn, CT.ix, List.all_cons, List.all_nil, Bool.and_true, Sl.own, Bool.not_false, wipeR, backR, bindT, setShs, asgTV, asgLV, called, lend, lent, home, List.take_succ_cons, List.take_zero, List.nodup_nil, List.nodup_cons, List.not_mem_nil, not_false_eq_true, and_self, itemsD, seqOf, Option.toList, enuI, Nat.reduceSub, Nat.reduceAdd, Nat.reduceEqDiff, rsSl, st_z, st_s, sr_z, sr_s, stb_sh, stb_no, stb_ow, d_asgS, d_aug, e_gc, e_sls, slsV, e_callK, asgSV, augV, setShs, permL, List.filterMap_cons, List.filterMap_nil, List.map_cons, List.map_nil, List.drop_zero, List.drop_succ_cons, and_true, true_and, Option.map_none, Option.bind_none, e_lnS, c1, e6, e7, e8, c_neI, e9, ln, dd, c_eqI, e10, e11, l1, f1, Bool.not_true]
end
end Wr.SpTrf
namespace Wr.SpTrm
open PySem PySem.Spec L2 Wr Wr.Cd Wr.SpJ Wr.SpB Wr.SpT Wr.SpTl Wr.SpTre Wr.SpTrf
variable {Δ : Str → Option CDef}
/-- trees two by two -/
def mg : List Tr → List Tr
  | [] => []
  | [t] => [.rs t]
  | t :: u :: r => .jn t u :: mg r
theorem mg_len : ∀ l : List Tr, (mg l).length = (l.length + 1) / 2
  | [] => rfl
  | [t] => by simp [mg]
  | t :: u :: r => by
    have ih := mg_len r
    simp only [mg, List.length_cons, ih]
    omega
theorem mg_ok {w N p : Nat} : ∀ l : List Tr, (∀ t ∈ l, t.ok w N p) → ∀ t ∈ mg l, t.ok w N (p + 1)
  | [], h, t, ht => by cases ht
  | [a], h, t, ht => by
    rw [List.mem_singleton.mp ht]
    exact ⟨p, rfl, h a (by simp)⟩
  | a :: b :: r, h, t, ht => by
    rcases List.mem_cons.mp (show t ∈ .jn a b :: mg r from ht) with e | e
    · rw [e]
      exact ⟨p, rfl, h a (by simp), h b (by simp)⟩
    · exact mg_ok r (fun t ht => h t (by simp [ht])) t e
def bsl (l : List Tr) : List Nat := l.flatMap Tr.bs
theorem mg_bs : ∀ l : List Tr, bsl (mg l) = bsl l
  | [] => rfl
  | [t] => by simp [mg, bsl, Tr.bs]
  | t :: u :: r => by
    have ih := mg_bs r
    unfold bsl at ih ⊢
    simp only [mg, List.flatMap_cons, Tr.bs, ih, List.append_assoc]
def trsD (l : List Tr) : List D := l.map Tr.d
/-- the joined ones -/
def prs : List Tr → List D
  | [] => []
  | [_] => []
  | t :: u :: r => .tup [.str "join", t.d, u.d] :: prs r
theorem prs_at : ∀ l : List Tr, prs l = ((List.range (l.length / 2)).map fun k => 2 * k).map fun k => D.tup [.str "join", (trsD l).getD k .non, (trsD l).getD (k + 1) .non]
  | [] => rfl
  | [t] => by simp [prs]
  | t :: u :: r => by
    have ih := prs_at r
    have e : (t :: u :: r).length / 2 = r.length / 2 + 1 := by simp only [List.length_cons]; omega
    rw [e, List.range_succ_eq_map]
    simp only [List.map_cons, List.map_map, prs]
    refine (List.cons.injEq _ _ _ _).mpr ⟨rfl, ?_⟩
    rw [ih, List.map_map]
    refine List.map_congr_left fun k _ => ?_
    simp only [Function.comp]
    have e1 : 2 * (k + 1) = 2 * k + 1 + 1 := by omega
    rw [e1]
    simp [trsD]
theorem mg_even : ∀ l : List Tr, l.length % 2 = 0 → trsD (mg l) = prs l
  | [], _ => rfl
  | [t], h => by cases h
  | t :: u :: r, h => by
    have ih := mg_even r (by simp only [List.length_cons] at h; omega)
    simp only [mg, prs, trsD, List.map_cons, Tr.d] at ih ⊢
    rw [ih]
theorem mg_odd : ∀ l : List Tr, l.length % 2 = 1 → trsD (mg l) = prs l ++ [.tup [.str "raise", (trsD l).getD (l.length - 1) .non]]
  | [], h => by cases h
  | [t], _ => rfl
  | t :: u :: r, h => by
    have hr : r.length % 2 = 1 := by simp only [List.length_cons] at h; omega
    have ih := mg_odd r hr
    have e : (t :: u :: r).length - 1 = (r.length - 1) + 1 + 1 := by
      simp only [List.length_cons]
      have : 0 < r.length := by
        cases r with
        | nil => cases hr
        | cons => simp
      omega
    rw [e]
    simp only [mg, prs, trsD, List.map_cons, Tr.d, List.getD_cons_succ, List.cons_append] at ih ⊢
    rw [ih]
theorem rsz (n : Nat) : Builtin.Range.rangeSize 0 (((n : Nat) : Int) - 1) 2 = ((n / 2 : Nat) : Int) := by
  unfold Builtin.Range.rangeSize
  rw [if_pos (by decide)]
  split <;> omega
theorem rng3_nats (n : Nat) : rng3D 0 (((n : Nat) : Int) - 1) 2 = natsD ((List.range (n / 2)).map fun k => 2 * k) := by
  unfold rng3D natsD
  rw [rsz, List.map_map]
  have e : ((n / 2 : Nat) : Int).toNat = n / 2 := rfl
  rw [e]
  refine List.map_congr_left fun k _ => ?_
  simp only [Function.comp]
  have e2 : (0 : Int) + ((k : Nat) : Int) * 2 = ((2 * k : Nat) : Int) := by omega
  rw [e2]
theorem at_get {l : List Tr} {k : Nat} (h : k < l.length) : ixD (.lst (trsD l)) (.int ((k : Nat) : Int)) = some ((trsD l).getD k .non) := by
  have hk : k < (trsD l).length := by unfold trsD; rw [List.length_map]; exact h
  refine x_lst ?_
  rw [List.getD_eq_getElem?_getD, List.getElem?_eq_getElem hk]
  rfl
theorem merged_ok [Df Δ "merged" c_merged] (n : Nat) {l : List Tr} (hl : l.length ≤ 100) : fnN Δ (n + 1) "merged" [.sh (.lst (trsD l))] = .ok (.fr (.lst (trsD (mg l)))) [.sh (.lst (trsD l))] := by
  rw [df "merged"]
  have ln : (trsD l).length = l.length := by unfold trsD; rw [List.length_map]
  have r1 : rng3K [.int 0, .int (((l.length : Nat) : Int) - 1), .int 2] [.sh (.lst (trsD l)), .no, .no] = .ok (natsD ((List.range (l.length / 2)).map fun k => 2 * k)) [.sh (.lst (trsD l)), .no, .no] := by
    show (if Oks.ok _ = true then _ else _) = _
    rw [rng3_nats]
    exact if_pos (okB_of ⟨by decide, by decide, by omega, by omega, by decide, by decide⟩)
  have z3 : 0 + 1 + 1 + 1 ≤ sizeL := by decide
  have l1 := lcW_nats (cf := fnN Δ n) (j := 2) (it := .rng3 (.cons (.int 0) (.cons (.bin .Sub (.bi .len (.cons (.var 0) .nil)) (.int 1)) (.cons (.int 2) .nil)))) (e := .tup (.cons (.str "join") (.cons (.ix (.var 0) (.var 2)) (.cons (.ix (.var 0) (.bin .Add (.var 2) (.int 1))) .nil))))
    (ρ := [.sh (.lst (trsD l)), .no, .no]) (ρ1 := [.sh (.lst (trsD l)), .no, .no]) (ρw := [.sh (.lst (trsD l)), .no, .no]) (ρ' := [.sh (.lst (trsD l)), .no, .no]) (l := (List.range (l.length / 2)).map fun k => 2 * k)
    (fun k => D.tup [.str "join", (trsD l).getD k .non, (trsD l).getD (k + 1) .non]) (by simp only [i_rng3, rng3I, runD, List.length_cons, List.length_nil, d_nil, d_cons, e_var, e_int, e_bl, e_non, e_str, e_fnc, e_bin, e_neg, e_inv, e_cmp, e_chn, e_bop, e_nt, e_ite, e_tup, e_tupS, evSt, e_lst, e_dct, e_dctT, e_popL, d_setd, d_asgL, e_gd, e_spl, e_ptn, e_ix, e_sl, e_bi, e_isi, e_rngL, e_rngT, e_call, e_call0, e_callV, e_dget, e_lc2, e_lc, d_asg, d_asgT, d_par, d_seti, d_app, d_ext, d_exp, d_ifs, d_fors, d_ret, d_retN, d_pass, d_brk, d_cnt, sms, smA, smO, smI, Sm.of, Sm.vt, smVar, rdVar, op1, op2, Re.bd, Re.of, Pl.at, slD?, truD, Rs.d, asgV, biV, evBs, plAll, evEs, evOp, evA, evTo, evO, evTs, List.cons_append, List.nil_append, List.append_nil, List.replicate, List.getElem?_cons_zero, List.getElem?_cons_succ, List.set_cons_zero, List.set_cons_succ, Option.bind_some, Option.map_some, b_add, b_sub, c_lt, c_le, c_gt, c_ge, f_abs, f_int, f_lenL, f_lenT, decide_true, decide_false, if_true, if_false, Bool.false_eq_true, ite_dec, rngI, rngV, lcV, noOwn, CT.ix, List.all_cons, List.all_nil, Bool.and_true, Sl.own, Bool.not_false, wipeR, backR, bindT, setShs, asgTV, asgLV, called, lend, lent, home, List.take_succ_cons, List.take_zero, List.nodup_nil, List.nodup_cons, List.not_mem_nil, not_false_eq_true, and_self, itemsD, seqOf, Option.toList, enuI, Nat.reduceSub, Nat.reduceAdd, Nat.reduceEqDiff, rsSl, st_z, st_s, sr_z, sr_s, stb_sh, stb_no, stb_ow, d_asgS, d_aug, e_gc, e_sls, slsV, e_callK, asgSV, augV, setShs, permL, List.filterMap_cons, List.filterMap_nil, List.map_cons, List.map_nil, List.drop_zero, List.drop_succ_cons, and_true, true_and, Option.map_none, Option.bind_none, ln, r1]) rfl rfl (fun k hk => by
      obtain ⟨m, hm, rfl⟩ := List.mem_map.mp hk
      have hm := List.mem_range.mp hm
      have g1 := at_get (l := l) (k := 2 * m) (by omega)
      have g2 := at_get (l := l) (k := 2 * m + 1) (by omega)
      have e1 : ((2 * m : Nat) : Int) + 1 = ((2 * m + 1 : Nat) : Int) := by omega
      simp only [lcTurn, runD, List.length_cons, List.length_nil, d_nil, d_cons, e_var, e_int, e_bl, e_non, e_str, e_fnc, e_bin, e_neg, e_inv, e_cmp, e_chn, e_bop, e_nt, e_ite, e_tup, e_tupS, evSt, e_lst, e_dct, e_dctT, e_popL, d_setd, d_asgL, e_gd, e_spl, e_ptn, e_ix, e_sl, e_bi, e_isi, e_rngL, e_rngT, e_call, e_call0, e_callV, e_dget, e_lc2, e_lc, d_asg, d_asgT, d_par, d_seti, d_app, d_ext, d_exp, d_ifs, d_fors, d_ret, d_retN, d_pass, d_brk, d_cnt, sms, smA, smO, smI, Sm.of, Sm.vt, smVar, rdVar, op1, op2, Re.bd, Re.of, Pl.at, slD?, truD, Rs.d, asgV, biV, evBs, plAll, evEs, evOp, evA, evTo, evO, evTs, List.cons_append, List.nil_append, List.append_nil, List.replicate, List.getElem?_cons_zero, List.getElem?_cons_succ, List.set_cons_zero, List.set_cons_succ, Option.bind_some, Option.map_some, b_add, b_sub, c_lt, c_le, c_gt, c_ge, f_abs, f_int, f_lenL, f_lenT, decide_true, decide_false, if_true, if_false, Bool.false_eq_true, ite_dec, rngI, rngV, lcV, noOwn, CT.ix, List.all_cons, List.all_nil, Bool.and_true, Sl.own, Bool.not_false, wipeR, backR, bindT, setShs, asgTV, asgLV, called, lend, lent, home, List.take_succ_cons, List.take_zero, List.nodup_nil, List.nodup_cons, List.not_mem_nil, not_false_eq_true, and_self, itemsD, seqOf, Option.toList, enuI, Nat.reduceSub, Nat.reduceAdd, Nat.reduceEqDiff, rsSl, st_z, st_s, sr_z, sr_s, stb_sh, stb_no, stb_ow, d_asgS, d_aug, e_gc, e_sls, slsV, e_callK, asgSV, augV, setShs, permL, List.filterMap_cons, List.filterMap_nil, List.map_cons, List.map_nil, List.drop_zero, List.drop_succ_cons, and_true, true_and, Option.map_none, Option.bind_none, e1, g1, g2, z3]) (by rw [List.length_map, List.length_range]; omega) rfl
  rw [← prs_at] at l1
  have a1 : Builtin.bitAnd ((l.length : Nat) : Int) 1 = ((l.length % 2 : Nat) : Int) := and_one (by omega)
  have pl : (prs l).length ≤ 100 := by
    rw [prs_at, List.length_map, List.length_map, List.length_range]
    omega
  by_cases hc : l.length % 2 = 1
  · have d1 : decide (((l.length % 2 : Nat) : Int) = 1) = true := decide_eq_true (by omega)
    have g3 := at_get (l := l) (k := l.length - 1) (by omega)
    have e3 : ((l.length : Nat) : Int) - 1 = ((l.length - 1 : Nat) : Int) := by omega
    have z2 : 0 + 1 + 1 ≤ sizeL := by decide
    have z4 : (prs l ++ [D.tup [.str "raise", (trsD l).getD (l.length - 1) .non]]).length ≤ sizeL := by
      rw [List.length_append, List.length_singleton]
      show _ ≤ 16777216
      omega
    rw [mg_odd l hc]
    simp only [c_merged, runD, List.length_cons, List.length_nil, d_nil, d_cons, e_var, e_int, e_bl, e_non, e_str, e_fnc, e_bin, e_neg, e_inv, e_cmp, e_chn, e_bop, e_nt, e_ite, e_tup, e_tupS, evSt, e_lst, e_dct, e_dctT, e_popL, d_setd, d_asgL, e_gd, e_spl, e_ptn, e_ix, e_sl, e_bi, e_isi, e_rngL, e_rngT, e_call, e_call0, e_callV, e_dget, e_lc2, e_lc, d_asg, d_asgT, d_par, d_seti, d_app, d_ext, d_exp, d_ifs, d_fors, d_ret, d_retN, d_pass, d_brk, d_cnt, sms, smA, smO, smI, Sm.of, Sm.vt, smVar, rdVar, op1, op2, Re.bd, Re.of, Pl.at, slD?, truD, Rs.d, asgV, biV, evBs, plAll, evEs, evOp, evA, evTo, evO, evTs, List.cons_append, List.nil_append, List.append_nil, List.replicate, List.getElem?_cons_zero, List.getElem?_cons_succ, List.set_cons_zero, List.set_cons_succ, Option.bind_some, Option.map_some, b_add, b_sub, c_lt, c_le, c_gt, c_ge, f_abs, f_int, f_lenL, f_lenT, decide_true, decide_false, if_true, if_false, Bool.false_eq_true, ite_dec, rngI, rngV, lcV, noOwn, CT.ix, List.all_cons, List.all_nil, Bool.and_true, Sl.own, Bool.not_false, wipeR, backR, bindT, setShs, asgTV, asgLV, called, lend, lent, home, List.take_succ_cons, List.take_zero, List.nodup_nil, List.nodup_cons, List.not_mem_nil, not_false_eq_true, and_self, itemsD, seqOf, Option.toList, enuI, Nat.reduceSub, Nat.reduceAdd, Nat.reduceEqDiff, rsSl, st_z, st_s, sr_z, sr_s, stb_sh, stb_no, stb_ow, d_asgS, d_aug, e_gc, e_sls, slsV, e_callK, asgSV, augV, setShs, permL, List.filterMap_cons, List.filterMap_nil, List.map_cons, List.map_nil, List.drop_zero, List.drop_succ_cons, and_true, true_and, Option.map_none, Option.bind_none, e_lstS, evSf, l1, ln, b_and, a1, c_eqI, d1, e3, g3, z2]
    rw [if_pos z4]
    rfl
  · have d1 : decide (((l.length % 2 : Nat) : Int) = 1) = false := decide_eq_false (by omega)
    rw [mg_even l (by omega)]
    simp only [c_merged, runD, List.length_cons, List.length_nil, d_nil, d_cons, e_var, e_int, e_bl, e_non, e_str, e_fnc, e_bin, e_neg, e_inv, e_cmp, e_chn, e_bop, e_nt, e_ite, e_tup, e_tupS, evSt, e_lst, e_dct, e_dctT, e_popL, d_setd, d_asgL, e_gd, e_spl, e_ptn, e_ix, e_sl, e_bi, e_isi, e_rngL, e_rngT, e_call, e_call0, e_callV, e_dget, e_lc2, e_lc, d_asg, d_asgT, d_par, d_seti, d_app, d_ext, d_exp, d_ifs, d_fors, d_ret, d_retN, d_pass, d_brk, d_cnt, sms, smA, smO, smI, Sm.of, Sm.vt, smVar, rdVar, op1, op2, Re.bd, Re.of, Pl.at, slD?, truD, Rs.d, asgV, biV, evBs, plAll, evEs, evOp, evA, evTo, evO, evTs, List.cons_append, List.nil_append, List.append_nil, List.replicate, List.getElem?_cons_zero, List.getElem?_cons_succ, List.set_cons_zero, List.set_cons_succ, Option.bind_some, Option.map_some, b_add, b_sub, c_lt, c_le, c_gt, c_ge, f_abs, f_int, f_lenL, f_lenT, decide_true, decide_false, if_true, if_false, Bool.false_eq_true, ite_dec, rngI, rngV, lcV, noOwn, CT.ix, List.all_cons, List.all_nil, Bool.and_true, Sl.own, Bool.not_false, wipeR, backR, bindT, setShs, asgTV, asgLV, called, lend, lent, home, List.take_succ_cons, List.take_zero, List.nodup_nil, List.nodup_cons, List.not_mem_nil, not_false_eq_true, and_self, itemsD, seqOf, Option.toList, enuI, Nat.reduceSub, Nat.reduceAdd, Nat.reduceEqDiff, rsSl, st_z, st_s, sr_z, sr_s, stb_sh, stb_no, stb_ow, d_asgS, d_aug, e_gc, e_sls, slsV, e_callK, asgSV, augV, setShs, permL, List.filterMap_cons, List.filterMap_nil, List.map_cons, List.map_nil, List.drop_zero, List.drop_succ_cons, and_true, true_and, Option.map_none, Option.bind_none, l1, ln, b_and, a1, c_eqI, d1]
/-- the input bits of a term with a place -/
def ba (w m x p : Nat) : List Nat := ((List.range m).filter fun b => x.testBit b).filter fun b => decide (b % w = p)
section
variable {w i x : Nat} (hw0 : 0 < w) (hw : w ≤ 8) (hi : i ≤ 4) (hx : x < 2 ^ 8)
include hw0 hw hi hx
theorem at_ok [Df Δ "input_bits" c_input_bits] [Df Δ "bits_of" c_bits_of] [Df Δ "bits_at" c_bits_at] (n p : Nat) : fnN Δ (n + 3) "bits_at" [.sh (shp w i), .sh (.int x), .sh (.int ((p : Nat) : Int))] = .ok (.fr (.lst (natsD (ba w (w * i) x p)))) [.sh (shp w i), .sh (.int x), .sh (.int ((p : Nat) : Int))] := by
  rw [df "bits_at"]
  have wi : w * i ≤ 8 * 4 := Nat.mul_le_mul hw hi
  have c1 := bitsof_ok (Δ := Δ) n (w := w) (i := i) (x := x) hw hi hx
  have fl := List.length_filter_le (fun b => x.testBit b) (List.range (w * i))
  rw [List.length_range] at fl
  have hlc := lcW_natsIf (cf := fnN Δ (n + 2)) (j := 3) (it := .ex (.call "bits_of" (.ex (.var 0) (.ex (.var 1) .nil)))) (c := .cmp .Eq (.bin .Mod (.var 3) (.ix (.var 0) (.int 0))) (.var 2)) (e := .var 3)
    (ρ := [.sh (shp w i), .sh (.int x), .sh (.int ((p : Nat) : Int)), .no]) (ρ1 := [.sh (shp w i), .sh (.int x), .sh (.int ((p : Nat) : Int)), .no]) (ρw := [.sh (shp w i), .sh (.int x), .sh (.int ((p : Nat) : Int)), .no]) (ρ' := [.sh (shp w i), .sh (.int x), .sh (.int ((p : Nat) : Int)), .no])
    (l := (List.range (w * i)).filter fun b => x.testBit b) (fun b => decide (b % w = p)) (fun b => D.int ((b : Nat) : Int)) (by simp only [i_ex, runD, List.length_cons, List.length_nil, d_nil, d_cons, e_var, e_int, e_bl, e_non, e_str, e_fnc, e_bin, e_neg, e_inv, e_cmp, e_chn, e_bop, e_nt, e_ite, e_tup, e_tupS, evSt, e_lst, e_dct, e_dctT, e_popL, d_setd, d_asgL, e_gd, e_spl, e_ptn, e_ix, e_sl, e_bi, e_isi, e_rngL, e_rngT, e_call, e_call0, e_callV, e_dget, e_lc2, e_lc, d_asg, d_asgT, d_par, d_seti, d_app, d_ext, d_exp, d_ifs, d_fors, d_ret, d_retN, d_pass, d_brk, d_cnt, sms, smA, smO, smI, Sm.of, Sm.vt, smVar, rdVar, op1, op2, Re.bd, Re.of, Pl.at, slD?, truD, Rs.d, asgV, biV, evBs, plAll, evEs, evOp, evA, evTo, evO, evTs, List.cons_append, List.nil_append, List.append_nil, List.replicate, List.getElem?_cons_zero, List.getElem?_cons_succ, List.set_cons_zero, List.set_cons_succ, Option.bind_some, Option.map_some, b_add, b_sub, c_lt, c_le, c_gt, c_ge, f_abs, f_int, f_lenL, f_lenT, decide_true, decide_false, if_true, if_false, Bool.false_eq_true, ite_dec, rngI, rngV, lcV, noOwn, CT.ix, List.all_cons, List.all_nil, Bool.and_true, Sl.own, Bool.not_false, wipeR, backR, bindT, setShs, asgTV, asgLV, called, lend, lent, home, List.take_succ_cons, List.take_zero, List.nodup_nil, List.nodup_cons, List.not_mem_nil, not_false_eq_true, and_self, itemsD, seqOf, Option.toList, enuI, Nat.reduceSub, Nat.reduceAdd, Nat.reduceEqDiff, rsSl, st_z, st_s, sr_z, sr_s, stb_sh, stb_no, stb_ow, d_asgS, d_aug, e_gc, e_sls, slsV, e_callK, asgSV, augV, setShs, permL, List.filterMap_cons, List.filterMap_nil, List.map_cons, List.map_nil, List.drop_zero, List.drop_succ_cons, and_true, true_and, Option.map_none, Option.bind_none, c1]) rfl rfl (fun k hk => by
      have b1 := b_mod (a := ((k : Nat) : Int)) (b := ((w : Nat) : Int)) (by omega)
      have e1 : ((k : Nat) : Int) % ((w : Nat) : Int) = ((k % w : Nat) : Int) := rfl
      by_cases hc : k % w = p
      · have d1 : decide (((k % w : Nat) : Int) = ((p : Nat) : Int)) = true := decide_eq_true (by omega)
        have d2 : decide (k % w = p) = true := decide_eq_true hc
        simp only [lcTurn, runD, List.length_cons, List.length_nil, d_nil, d_cons, e_var, e_int, e_bl, e_non, e_str, e_fnc, e_bin, e_neg, e_inv, e_cmp, e_chn, e_bop, e_nt, e_ite, e_tup, e_tupS, evSt, e_lst, e_dct, e_dctT, e_popL, d_setd, d_asgL, e_gd, e_spl, e_ptn, e_ix, e_sl, e_bi, e_isi, e_rngL, e_rngT, e_call, e_call0, e_callV, e_dget, e_lc2, e_lc, d_asg, d_asgT, d_par, d_seti, d_app, d_ext, d_exp, d_ifs, d_fors, d_ret, d_retN, d_pass, d_brk, d_cnt, sms, smA, smO, smI, Sm.of, Sm.vt, smVar, rdVar, op1, op2, Re.bd, Re.of, Pl.at, slD?, truD, Rs.d, asgV, biV, evBs, plAll, evEs, evOp, evA, evTo, evO, evTs, List.cons_append, List.nil_append, List.append_nil, List.replicate, List.getElem?_cons_zero, List.getElem?_cons_succ, List.set_cons_zero, List.set_cons_succ, Option.bind_some, Option.map_some, b_add, b_sub, c_lt, c_le, c_gt, c_ge, f_abs, f_int, f_lenL, f_lenT, decide_true, decide_false, if_true, if_false, Bool.false_eq_true, ite_dec, rngI, rngV, lcV, noOwn, CT.ix, List.all_cons, List.all_nil, Bool.and_true, Sl.own, Bool.not_false, wipeR, backR, bindT, setShs, asgTV, asgLV, called, lend, lent, home, List.take_succ_cons, List.take_zero, List.nodup_nil, List.nodup_cons, List.not_mem_nil, not_false_eq_true, and_self, itemsD, seqOf, Option.toList, enuI, Nat.reduceSub, Nat.reduceAdd, Nat.reduceEqDiff, rsSl, st_z, st_s, sr_z, sr_s, stb_sh, stb_no, stb_ow, d_asgS, d_aug, e_gc, e_sls, slsV, e_callK, asgSV, augV, setShs, permL, List.filterMap_cons, List.filterMap_nil, List.map_cons, List.map_nil, List.drop_zero, List.drop_succ_cons, and_true, true_and, Option.map_none, Option.bind_none, xt0, b1, e1, c_eqI, d1, d2]
      · have d1 : decide (((k % w : Nat) : Int) = ((p : Nat) : Int)) = false := decide_eq_false (by omega)
        have d2 : decide (k % w = p) = false := decide_eq_false hc
        simp only [lcTurn, runD, List.length_cons, List.length_nil, d_nil, d_cons, e_var, e_int, e_bl, e_non, e_str, e_fnc, e_bin, e_neg, e_inv, e_cmp, e_chn, e_bop, e_nt, e_ite, e_tup, e_tupS, evSt, e_lst, e_dct, e_dctT, e_popL, d_setd, d_asgL, e_gd, e_spl, e_ptn, e_ix, e_sl, e_bi, e_isi, e_rngL, e_rngT, e_call, e_call0, e_callV, e_dget, e_lc2, e_lc, d_asg, d_asgT, d_par, d_seti, d_app, d_ext, d_exp, d_ifs, d_fors, d_ret, d_retN, d_pass, d_brk, d_cnt, sms, smA, smO, smI, Sm.of, Sm.vt, smVar, rdVar, op1, op2, Re.bd, Re.of, Pl.at, slD?, truD, Rs.d, asgV, biV, evBs, plAll, evEs, evOp, evA, evTo, evO, evTs, List.cons_append, List.nil_append, List.append_nil, List.replicate, List.getElem?_cons_zero, List.getElem?_cons_succ, List.set_cons_zero, List.set_cons_succ, Option.bind_some, Option.map_some, b_add, b_sub, c_lt, c_le, c_gt, c_ge, f_abs, f_int, f_lenL, f_lenT, decide_true, decide_false, if_true, if_false, Bool.false_eq_true, ite_dec, rngI, rngV, lcV, noOwn, CT.ix, List.all_cons, List.all_nil, Bool.and_true, Sl.own, Bool.not_false, wipeR, backR, bindT, setShs, asgTV, asgLV, called, lend, lent, home, List.take_succ_cons, List.take_zero, List.nodup_nil, List.nodup_cons, List.not_mem_nil, not_false_eq_true, and_self, itemsD, seqOf, Option.toList, enuI, Nat.reduceSub, Nat.reduceAdd, Nat.reduceEqDiff, rsSl, st_z, st_s, sr_z, sr_s, stb_sh, stb_no, stb_ow, d_asgS, d_aug, e_gc, e_sls, slsV, e_callK, asgSV, augV, setShs, permL, List.filterMap_cons, List.filterMap_nil, List.map_cons, List.map_nil, List.drop_zero, List.drop_succ_cons, and_true, true_and, Option.map_none, Option.bind_none, xt0, b1, e1, c_eqI, d1, d2]) (by omega) rfl
  simp only [c_bits_at, runD, List.length_cons, List.length_nil, d_nil, d_cons, e_var, e_int, e_bl, e_non, e_str, e_fnc, e_bin, e_neg, e_inv, e_cmp, e_chn, e_bop, e_nt, e_ite, e_tup, e_tupS, evSt, e_lst, e_dct, e_dctT, e_popL, d_setd, d_asgL, e_gd, e_spl, e_ptn, e_ix, e_sl, e_bi, e_isi, e_rngL, e_rngT, e_call, e_call0, e_callV, e_dget, e_lc2, e_lc, d_asg, d_asgT, d_par, d_seti, d_app, d_ext, d_exp, d_ifs, d_fors, d_ret, d_retN, d_pass, d_brk, d_cnt, sms, smA, smO, smI, Sm.of, Sm.vt, smVar, rdVar, op1, op2, Re.bd, Re.of, Pl.at, slD?, truD, Rs.d, asgV, biV, evBs, plAll, evEs, evOp, evA, evTo, evO, evTs, List.cons_append, List.nil_append, List.append_nil, List.replicate, List.getElem?_cons_zero, List.getElem?_cons_succ, List.set_cons_zero, List.set_cons_succ, Option.bind_some, Option.map_some, b_add, b_sub, c_lt, c_le, c_gt, c_ge, f_abs, f_int, f_lenL, f_lenT, decide_true, decide_false, if_true, if_false, Bool.false_eq_true, ite_dec, rngI, rngV, lcV, noOwn, CT.ix, List.all_cons, List.all_nil, Bool.and_true, Sl.own, Bool.not_false, wipeR, backR, bindT, setShs, asgTV, asgLV, called, lend, lent, home, List.take_succ_cons, List.take_zero, List.nodup_nil, List.nodup_cons, List.not_mem_nil, not_false_eq_true, and_self, itemsD, seqOf, Option.toList, enuI, Nat.reduceSub, Nat.reduceAdd, Nat.reduceEqDiff, rsSl, st_z, st_s, sr_z, sr_s, stb_sh, stb_no, stb_ow, d_asgS, d_aug, e_gc, e_sls, slsV, e_callK, asgSV, augV, setShs, permL, List.filterMap_cons, List.filterMap_nil, List.map_cons, List.map_nil, List.drop_zero, List.drop_succ_cons, and_true, true_and, Option.map_none, Option.bind_none, hlc]
  rfl
end
/-- what holds of the trees of a place -/
structure Inv (w m x p : Nat) (l : List Tr) : Prop where
  ok : ∀ t ∈ l, t.ok w m p
  bs : (bsl l).Perm (((List.range m).filter fun b => x.testBit b).filter fun b => decide (b % w ≤ p))
  lo : (((List.range m).filter fun b => x.testBit b).filter fun b => decide (b % w ≤ p)).length ≤ m
  sz : ((((List.range m).filter fun b => x.testBit b).filter fun b => decide (b % w ≤ p)).map fun b => 2 ^ (b % w)).sum ≤ l.length * 2 ^ p
  mx : l.length * 2 ^ p < ((((List.range m).filter fun b => x.testBit b).filter fun b => decide (b % w ≤ p)).map fun b => 2 ^ (b % w)).sum + 2 ^ p
def lfs (l : List Nat) : List Tr := l.map Tr.lf
theorem lfs_bs (l : List Nat) : bsl (lfs l) = l := by
  unfold bsl lfs
  induction l with
  | nil => rfl
  | cons b r ih => rw [List.map_cons, List.flatMap_cons, ih]; rfl
theorem lfs_d (l : List Nat) : trsD (lfs l) = natsD l := by unfold trsD lfs natsD; rw [List.map_map]; rfl
theorem flt_split (l : List Nat) (w p : Nat) : (l.filter fun b => decide (b % w ≤ p + 1)).Perm ((l.filter fun b => decide (b % w ≤ p)) ++ l.filter fun b => decide (b % w = p + 1)) := by
  induction l with
  | nil => exact .nil
  | cons b r ih =>
    by_cases h1 : b % w ≤ p
    · have h2 : b % w ≤ p + 1 := by omega
      have h3 : ¬ b % w = p + 1 := by omega
      simp only [List.filter_cons, h1, h2, h3, decide_true, decide_false, if_true, if_false, Bool.false_eq_true, List.cons_append]
      exact ih.cons b
    · by_cases h3 : b % w = p + 1
      · have h2 : b % w ≤ p + 1 := by omega
        simp only [List.filter_cons, h1, h2, h3, decide_true, decide_false, if_true, if_false, Bool.false_eq_true]
        have h4 : ¬ p + 1 ≤ p := by omega
        simp only [Nat.le_refl, h4, decide_true, decide_false, if_true, if_false, Bool.false_eq_true]
        exact (ih.cons b).trans List.perm_middle.symm
      · have h2 : ¬ b % w ≤ p + 1 := by omega
        simp only [List.filter_cons, h1, h2, h3, decide_false, if_false, Bool.false_eq_true]
        exact ih
theorem sum_same {w q : Nat} : ∀ l : List Nat, (∀ b ∈ l, b % w = q) → (l.map fun b => 2 ^ (b % w)).sum = l.length * 2 ^ q
  | [], _ => by simp
  | b :: r, h => by
    have ih := sum_same r fun c hc => h c (by simp [hc])
    rw [List.map_cons, List.sum_cons, ih, h b (by simp), List.length_cons, Nat.succ_mul]
    omega
theorem lf_ok {w m x p : Nat} : ∀ t ∈ lfs (ba w m x p), t.ok w m p := fun t ht => by
  obtain ⟨b, hb, rfl⟩ := List.mem_map.mp ht
  obtain ⟨h1, h2⟩ := List.mem_filter.mp hb
  obtain ⟨h3, h4⟩ := List.mem_filter.mp h1
  exact ⟨List.mem_range.mp h3, of_decide_eq_true h2⟩
theorem inv0 {w m x : Nat} : Inv w m x 0 (lfs (ba w m x 0)) := by
  have e : (fun b : Nat => decide (b % w ≤ 0)) = fun b => decide (b % w = 0) := by
    funext b
    by_cases h : b % w = 0
    · simp [h]
    · have : ¬ b % w ≤ 0 := by omega
      simp [h]
  have s := sum_same (w := w) (q := 0) (ba w m x 0) fun b hb => of_decide_eq_true (List.mem_filter.mp hb).2
  have ll : (lfs (ba w m x 0)).length = (ba w m x 0).length := by unfold lfs; rw [List.length_map]
  refine ⟨lf_ok, ?_, ?_, ?_, ?_⟩
  · rw [lfs_bs, e]
    exact .refl _
  · have h1 := List.length_filter_le (fun b => decide (b % w ≤ 0)) ((List.range m).filter fun b => x.testBit b)
    have h2 := List.length_filter_le (fun b => x.testBit b) (List.range m)
    rw [List.length_range] at h2
    omega
  · rw [e, ll]
    exact Nat.le_of_eq s
  · rw [e, ll]
    show _ < ((ba w m x 0).map fun b => 2 ^ (b % w)).sum + 2 ^ 0
    rw [s]
    omega
theorem inv_up {w m x p : Nat} {l : List Tr} (h : Inv w m x p l) : Inv w m x (p + 1) (mg l ++ lfs (ba w m x (p + 1))) := by
  obtain ⟨h1, h2, h3, h4, h5⟩ := h
  have sp := flt_split ((List.range m).filter fun b => x.testBit b) w p
  have s := sum_same (w := w) (q := p + 1) (ba w m x (p + 1)) fun b hb => of_decide_eq_true (List.mem_filter.mp hb).2
  have ll : (lfs (ba w m x (p + 1))).length = (ba w m x (p + 1)).length := by unfold lfs; rw [List.length_map]
  have sm := (sp.map fun b => 2 ^ (b % w)).sum_nat
  rw [List.map_append, List.sum_append] at sm
  have s' : ((((List.range m).filter fun b => x.testBit b).filter fun b => decide (b % w = p + 1)).map fun b => 2 ^ (b % w)).sum = (ba w m x (p + 1)).length * 2 ^ (p + 1) := s
  rw [s'] at sm
  have lm := mg_len l
  have e2 : (2 : Nat) ^ (p + 1) = 2 * 2 ^ p := by rw [Nat.pow_succ]; omega
  refine ⟨fun t ht => (List.mem_append.mp ht).elim (mg_ok l h1 t) (lf_ok t), ?_, ?_, ?_, ?_⟩
  · have e : bsl (mg l ++ lfs (ba w m x (p + 1))) = bsl l ++ ba w m x (p + 1) := by
      have e3 := mg_bs l
      have e4 := lfs_bs (ba w m x (p + 1))
      unfold bsl at e3 e4 ⊢
      rw [List.flatMap_append, e3, e4]
    rw [e]
    exact (h2.append_right _).trans sp.symm
  · have h1 := List.length_filter_le (fun b => decide (b % w ≤ p + 1)) ((List.range m).filter fun b => x.testBit b)
    have h2 := List.length_filter_le (fun b => x.testBit b) (List.range m)
    rw [List.length_range] at h2
    omega
  · rw [sm, List.length_append, ll, lm, Nat.add_mul, e2]
    have k1 : l.length * 2 ^ p ≤ (l.length + 1) / 2 * (2 * 2 ^ p) := by
      rw [← Nat.mul_assoc]
      exact Nat.mul_le_mul_right _ (by omega)
    omega
  · rw [sm, List.length_append, ll, lm, Nat.add_mul, e2]
    have k1 : (l.length + 1) / 2 * (2 * 2 ^ p) ≤ (l.length + 1) * 2 ^ p := by
      rw [← Nat.mul_assoc]
      exact Nat.mul_le_mul_right _ (by omega)
    rw [Nat.add_mul, Nat.one_mul] at k1
    omega
end Wr.SpTrm
namespace Wr.SpTrg
open PySem PySem.Spec L2 Wr Wr.Cd Wr.SpJ Wr.SpB Wr.SpT Wr.SpTl Wr.SpTre Wr.SpTrf Wr.SpTrm
variable {Δ : Str → Option CDef}
def bdF : CSs := .cons (.asg 4 (.bin .Add (.call "merged" (.ex (.var 4) .nil)) (.call "bits_at" (.ex (.var 0) (.ex (.var 1) (.ex (.var 5) .nil)))))) .nil
section
variable {w i x k : Nat} (hw0 : 0 < w) (hw : w ≤ 8) (hi : i ≤ 4) (hx : x < 2 ^ (w * i)) (hwi : w * i ≤ 8) (h0 : 0 < x) (hk : k ≤ 40) (h1 : ∀ j, j < k → 2 ^ j < wt (pl w i x)) (h2 : wt (pl w i x) ≤ 2 ^ k)
theorem wt_all : wt (pl w i x) = (((List.range (w * i)).filter fun b => x.testBit b).map fun b => 2 ^ (b % w)).sum := by
  unfold wt pl
  rw [List.map_map]
  have e : (fun b : Nat => decide (x / 2 ^ b % 2 = 1)) = fun b => x.testBit b := by funext b; exact bit_dec
  rw [e]
  rfl
theorem le_sum {l : List Nat} {f : Nat → Nat} {b : Nat} (h : b ∈ l) : f b ≤ (l.map f).sum := by
  induction l with
  | nil => cases h
  | cons c r ih =>
    rw [List.map_cons, List.sum_cons]
    rcases List.mem_cons.mp h with e | e
    · rw [e]; omega
    · have := ih e; omega
include hx in
theorem nb_all : nb ((List.range (w * i)).filter fun b => x.testBit b) = x := by
  refine Nat.eq_of_testBit_eq fun b => ?_
  have h := (sum_bits (fun b => x.testBit b) (w * i)).2 b
  have e : nb ((List.range (w * i)).filter fun b => x.testBit b) = (((List.range (w * i)).filter fun b => x.testBit b).map fun b => 2 ^ b).sum := rfl
  rw [e, h]
  by_cases c : b < w * i
  · simp [c]
  · have : x.testBit b = false := Nat.testBit_lt_two_pow (Nat.lt_of_lt_of_le hx (Nat.pow_le_pow_right (by decide) (by omega)))
    simp [this]
include hx h0 h2 in
/-- the trees of a place that is not too low: one -/
theorem inv_end {p : Nat} (hp : k ≤ p) {l : List Tr} (I : Inv w (w * i) x p l) : ∃ t : Tr, l = [t] ∧ t.ok w (w * i) p ∧ t.bs.Nodup ∧ nb t.bs = x := by
  have all : (((List.range (w * i)).filter fun b => x.testBit b).filter fun b => decide (b % w ≤ p)) = (List.range (w * i)).filter fun b => x.testBit b := by
    refine List.filter_eq_self.mpr fun b hb => decide_eq_true ?_
    have q := le_sum (f := fun b => 2 ^ (b % w)) hb
    rw [← wt_all] at q
    have q2 : 2 ^ (b % w) ≤ 2 ^ p := Nat.le_trans q (Nat.le_trans h2 (Nat.pow_le_pow_right (by decide) hp))
    exact (Nat.pow_le_pow_iff_right (by decide)).mp q2
  obtain ⟨g1, g2, g3, g4, g5⟩ := I
  rw [all] at g2 g4 g5
  rw [← wt_all] at g4 g5
  have ne : (List.range (w * i)).filter (fun b => x.testBit b) ≠ [] := fun z => by
    have := nb_all (w := w) (i := i) hx
    rw [z] at this
    have e : nb [] = 0 := rfl
    omega
  have wp : 0 < wt (pl w i x) := by
    rw [wt_all]
    obtain ⟨b, hb⟩ := List.exists_mem_of_ne_nil _ ne
    have q := le_sum (f := fun b => 2 ^ (b % w)) hb
    have : 0 < 2 ^ (b % w) := Nat.pow_pos (by decide)
    omega
  have pp : 0 < 2 ^ p := Nat.pow_pos (by decide)
  have kp : 2 ^ k ≤ 2 ^ p := Nat.pow_le_pow_right (by decide) hp
  have len : l.length = 1 := by
    have a1 : l.length < 2 := Nat.lt_of_mul_lt_mul_right (a := 2 ^ p) (by omega)
    have a2 : l.length ≠ 0 := fun z => by rw [z] at g4; omega
    omega
  obtain ⟨t, rfl⟩ := List.length_eq_one_iff.mp len
  have e : bsl [t] = t.bs := by simp [bsl]
  rw [e] at g2
  exact ⟨t, rfl, g1 t (by simp), g2.nodup_iff.mpr (List.nodup_range.filter _), (nb_perm g2).trans (nb_all hx)⟩
theorem inv_len {p m : Nat} {l : List Tr} (hm : m ≤ 32) (I : Inv w m x p l) : l.length ≤ 40 := by
  obtain ⟨g1, g2, g3, g4, g5⟩ := I
  have s := sum_le (fun b => 2 ^ (b % w)) (2 ^ p) (((List.range m).filter fun b => x.testBit b).filter fun b => decide (b % w ≤ p)) fun b hb => Nat.pow_le_pow_right (by decide) (of_decide_eq_true (List.mem_filter.mp hb).2)
  have s2 : 2 ^ p * (((List.range m).filter fun b => x.testBit b).filter fun b => decide (b % w ≤ p)).length ≤ 2 ^ p * m := Nat.mul_le_mul_left _ g3
  have a1 : l.length < m + 1 := Nat.lt_of_mul_lt_mul_right (a := 2 ^ p) (by rw [Nat.add_mul, Nat.one_mul, Nat.mul_comm m]; omega)
  omega
include hw0 hw hi hx hwi
theorem turnF [Df Δ "input_bits" c_input_bits] [Df Δ "bits_of" c_bits_of] [Df Δ "bits_at" c_bits_at] [Df Δ "merged" c_merged] (n : Nat) {a2 a3 s5 : Sl} {p : Nat} {l : List Tr} (h5 : stb s5) (I : Inv w (w * i) x p l) :
    Wr.forTurn (.nm 5) (sss (fnN Δ (n + 3)) bdF) (.int ((p + 1 : Nat) : Int)) [.sh (shp w i), .sh (.int x), a2, a3, .ow (.lst (trsD l)), s5] = .ok .nx [.sh (shp w i), .sh (.int x), a2, a3, .ow (.lst (trsD (mg l ++ lfs (ba w (w * i) x (p + 1))))), .sh (.int ((p + 1 : Nat) : Int))] := by
  have x8 : x < 2 ^ 8 := Nat.lt_of_lt_of_le hx (Nat.pow_le_pow_right (by decide) hwi)
  have ll := inv_len (by omega) I
  have c1 := merged_ok (Δ := Δ) (n + 2) (l := l) (by omega)
  have c2 := at_ok (Δ := Δ) hw0 hw hi x8 n (p + 1)
  have l1 : (trsD (mg l)).length ≤ 100 := by
    unfold trsD
    rw [List.length_map, mg_len]
    omega
  have l2 : (natsD (ba w (w * i) x (p + 1))).length ≤ 100 := by
    unfold natsD
    rw [List.length_map]
    have h1 := List.length_filter_le (fun b => decide (b % w = p + 1)) ((List.range (w * i)).filter fun b => x.testBit b)
    have h2 := List.length_filter_le (fun b => x.testBit b) (List.range (w * i))
    rw [List.length_range] at h2
    unfold ba
    omega
  have b1 := b_addL (a := trsD (mg l)) (b := natsD (ba w (w * i) x (p + 1))) (by omega)
  have e : trsD (mg l) ++ natsD (ba w (w * i) x (p + 1)) = trsD (mg l ++ lfs (ba w (w * i) x (p + 1))) := by
    rw [← lfs_d]
    unfold trsD
    rw [List.map_append]
  rw [e] at b1
  simp only [Wr.forTurn, bdF, runD, List.length_cons, List.length_nil, d_nil, d_cons, e_var, e_int, e_bl, e_non, e_str, e_fnc, e_bin, e_neg, e_inv, e_cmp, e_chn, e_bop, e_nt, e_ite, e_tup, e_tupS, evSt, e_lst, e_dct, e_dctT, e_popL, d_setd, d_asgL, e_gd, e_spl, e_ptn, e_ix, e_sl, e_bi, e_isi, e_rngL, e_rngT, e_call, e_call0, e_callV, e_dget, e_lc2, e_lc, d_asg, d_asgT, d_par, d_seti, d_app, d_ext, d_exp, d_ifs, d_fors, d_ret, d_retN, d_pass, d_brk, d_cnt, sms, smA, smO, smI, Sm.of, Sm.vt, smVar, rdVar, op1, op2, Re.bd, Re.of, Pl.at, slD?, truD, Rs.d, asgV, biV, evBs, plAll, evEs, evOp, evA, evTo, evO, evTs, List.cons_append, List.nil_append, List.append_nil, List.replicate, List.getElem?_cons_zero, List.getElem?_cons_succ, List.set_cons_zero, List.set_cons_succ, Option.bind_some, Option.map_some, b_add, b_sub, c_lt, c_le, c_gt, c_ge, f_abs, f_int, f_lenL, f_lenT, decide_true, decide_false, if_true, if_false, Bool.false_eq_true, ite_dec, rngI, rngV, lcV, noOwn, CT.ix, List.all_cons, List.all_nil, Bool.and_true, Sl.own, Bool.not_false, wipeR, backR, bindT, setShs, asgTV, asgLV, called, lend, lent, home, List.take_succ_cons, List.take_zero, List.nodup_nil, List.nodup_cons, List.not_mem_nil, not_false_eq_true, and_self, itemsD, seqOf, Option.toList, enuI, Nat.reduceSub, Nat.reduceAdd, Nat.reduceEqDiff, rsSl, st_z, st_s, sr_z, sr_s, stb_sh, stb_no, stb_ow, d_asgS, d_aug, e_gc, e_sls, slsV, e_callK, asgSV, augV, setShs, permL, List.filterMap_cons, List.filterMap_nil, List.map_cons, List.map_nil, List.drop_zero, List.drop_succ_cons, and_true, true_and, Option.map_none, Option.bind_none, h5, c1, c2, b1]
include h1 h2 hk
theorem low_told [Df Δ "input_bits" c_input_bits] [Df Δ "bits_of" c_bits_of] [Df Δ "places_of" c_places_of] [Df Δ "weight" c_weight] [Df Δ "least_place" c_least_place] [Df Δ "tree_for" c_tree_for] (n : Nat) {p : Nat} (hp : p < k) :
    fnN Δ (n + 6) "tree_for" [.sh (shp w i), .sh (.int x), .sh (.int ((p : Nat) : Int))] = .ex ⟨"TooLow", [("value", .int ((k : Nat) : Int))]⟩ [.sh (shp w i), .sh (.int x), .sh (.int ((p : Nat) : Int))] := by
  rw [df "tree_for"]
  have x8 : x < 2 ^ 8 := Nat.lt_of_lt_of_le hx (Nat.pow_le_pow_right (by decide) hwi)
  have c1 := least_ok (Δ := Δ) hw0 hw hi x8 hk h1 h2 n
  have d1 : decide (((p : Nat) : Int) < ((k : Nat) : Int)) = true := decide_eq_true (by omega)
  simp only [c_tree_for, d_rse, rseV, runD, List.length_cons, List.length_nil, d_nil, d_cons, e_var, e_int, e_bl, e_non, e_str, e_fnc, e_bin, e_neg, e_inv, e_cmp, e_chn, e_bop, e_nt, e_ite, e_tup, e_tupS, evSt, e_lst, e_dct, e_dctT, e_popL, d_setd, d_asgL, e_gd, e_spl, e_ptn, e_ix, e_sl, e_bi, e_isi, e_rngL, e_rngT, e_call, e_call0, e_callV, e_dget, e_lc2, e_lc, d_asg, d_asgT, d_par, d_seti, d_app, d_ext, d_exp, d_ifs, d_fors, d_ret, d_retN, d_pass, d_brk, d_cnt, sms, smA, smO, smI, Sm.of, Sm.vt, smVar, rdVar, op1, op2, Re.bd, Re.of, Pl.at, slD?, truD, Rs.d, asgV, biV, evBs, plAll, evEs, evOp, evA, evTo, evO, evTs, List.cons_append, List.nil_append, List.append_nil, List.replicate, List.getElem?_cons_zero, List.getElem?_cons_succ, List.set_cons_zero, List.set_cons_succ, Option.bind_some, Option.map_some, b_add, b_sub, c_lt, c_le, c_gt, c_ge, f_abs, f_int, f_lenL, f_lenT, decide_true, decide_false, if_true, if_false, Bool.false_eq_true, ite_dec, rngI, rngV, lcV, noOwn, CT.ix, List.all_cons, List.all_nil, Bool.and_true, Sl.own, Bool.not_false, wipeR, backR, bindT, setShs, asgTV, asgLV, called, lend, lent, home, List.take_succ_cons, List.take_zero, List.nodup_nil, List.nodup_cons, List.not_mem_nil, not_false_eq_true, and_self, itemsD, seqOf, Option.toList, enuI, Nat.reduceSub, Nat.reduceAdd, Nat.reduceEqDiff, rsSl, st_z, st_s, sr_z, sr_s, stb_sh, stb_no, stb_ow, d_asgS, d_aug, e_gc, e_sls, slsV, e_callK, asgSV, augV, setShs, permL, List.filterMap_cons, List.filterMap_nil, List.map_cons, List.map_nil, List.drop_zero, List.drop_succ_cons, and_true, true_and, Option.map_none, Option.bind_none, c1, d1]
include h0
theorem tree_ok [Df Δ "input_bits" c_input_bits] [Df Δ "bits_of" c_bits_of] [Df Δ "places_of" c_places_of] [Df Δ "weight" c_weight] [Df Δ "least_place" c_least_place] [Df Δ "bits_at" c_bits_at] [Df Δ "merged" c_merged] [Df Δ "tree_for" c_tree_for] (n : Nat) {p : Nat} (hp : k ≤ p) (hp2 : p ≤ 40) :
    ∃ t : Tr, t.ok w (w * i) p ∧ t.bs.Nodup ∧ nb t.bs = x ∧ fnN Δ (n + 6) "tree_for" [.sh (shp w i), .sh (.int x), .sh (.int ((p : Nat) : Int))] = .ok (.sh t.d) [.sh (shp w i), .sh (.int x), .sh (.int ((p : Nat) : Int))] := by
  have x8 : x < 2 ^ 8 := Nat.lt_of_lt_of_le hx (Nat.pow_le_pow_right (by decide) hwi)
  have c1 := least_ok (Δ := Δ) hw0 hw hi x8 hk h1 h2 n
  have c2 : fnN Δ (n + 5) "bits_at" [.sh (shp w i), .sh (.int x), .sh (.int 0)] = _ := at_ok (Δ := Δ) hw0 hw hi x8 (n + 2) 0
  have ll : ∀ {q : Nat} {l : List Tr}, Inv w (w * i) x q l → l.length ≤ 40 := fun I => inv_len (by omega) I
  obtain ⟨ρ', e, l, I, s5, g5, rfl⟩ := forW_inv (cf := fnN Δ (n + 5)) (tg := .nm 5) (body := bdF) (xs := rngD 1 (((p : Nat) : Int) + 1)) (ρ := [.sh (shp w i), .sh (.int x), .sh (.int ((p : Nat) : Int)), .sh (.int ((k : Nat) : Int)), .ow (.lst (natsD (ba w (w * i) x 0))), .no])
    (fun q ρ => ∃ l, Inv w (w * i) x q l ∧ ∃ s5, stb s5 ∧ ρ = [.sh (shp w i), .sh (.int x), .sh (.int ((p : Nat) : Int)), .sh (.int ((k : Nat) : Int)), .ow (.lst (trsD l)), s5]) ⟨lfs (ba w (w * i) x 0), inv0, .no, stb_no, by rw [lfs_d]⟩ (by
      rintro q y ρ hy ⟨l, I, s5, h5, rfl⟩
      have ey := rngD_get hy
      have e1 : (1 : Int) + ((q : Nat) : Int) = ((q + 1 : Nat) : Int) := by omega
      rw [e1] at ey
      subst ey
      exact ⟨_, turnF hw0 hw hi hx hwi (n + 2) h5 I, _, inv_up I, _, stb_sh, rfl⟩)
  have rl : (rngD 1 (((p : Nat) : Int) + 1)).length = p := by rw [rngD_len]; omega
  rw [rl] at I
  obtain ⟨t, rfl, t1, t2, t3⟩ := inv_end (w := w) (i := i) (k := k) hx h0 h2 hp I
  refine ⟨t, t1, t2, t3, ?_⟩
  rw [df "tree_for"]
  have d1 : decide (((p : Nat) : Int) < ((k : Nat) : Int)) = false := decide_eq_false (by omega)
  have r1 := k_rng2 (a := 1) (n := ((p : Nat) : Int) + 1) (ρ := [.sh (shp w i), .sh (.int x), .sh (.int ((p : Nat) : Int)), .sh (.int ((k : Nat) : Int)), .ow (.lst (natsD (ba w (w * i) x 0))), .no]) (okB_of ⟨by decide, by decide, by omega, by omega, by omega⟩)
  have e' : c_tree_for.body = .cons (.asg 3 (.call "least_place" (.ex (.var 0) (.ex (.var 1) .nil)))) (.cons (.ifs (.cmp .Lt (.var 2) (.var 3)) (.cons (.rse "TooLow" "value" (.var 3)) .nil) .nil) (.cons (.asg 4 (.call "bits_at" (.ex (.var 0) (.ex (.var 1) (.ex (.int 0) .nil)))))
    (.cons (.fors (.nm 5) (.rng (.cons (.int 1) (.cons (.bin .Add (.var 2) (.int 1)) .nil))) bdF) (.cons (.ret (.ix (.var 4) (.int 0))) .nil)))) := rfl
  have np : c_tree_for.np = 3 := rfl
  have ns : c_tree_for.ns = 6 := rfl
  have ze : trsD [t] = [t.d] := rfl
  rw [ze] at e
  simp only [i_rng, runD, List.length_cons, List.length_nil, d_nil, d_cons, e_var, e_int, e_bl, e_non, e_str, e_fnc, e_bin, e_neg, e_inv, e_cmp, e_chn, e_bop, e_nt, e_ite, e_tup, e_tupS, evSt, e_lst, e_dct, e_dctT, e_popL, d_setd, d_asgL, e_gd, e_spl, e_ptn, e_ix, e_sl, e_bi, e_isi, e_rngL, e_rngT, e_call, e_call0, e_callV, e_dget, e_lc2, e_lc, d_asg, d_asgT, d_par, d_seti, d_app, d_ext, d_exp, d_ifs, d_fors, d_ret, d_retN, d_pass, d_brk, d_cnt, sms, smA, smO, smI, Sm.of, Sm.vt, smVar, rdVar, op1, op2, Re.bd, Re.of, Pl.at, slD?, truD, Rs.d, asgV, biV, evBs, plAll, evEs, evOp, evA, evTo, evO, evTs, List.cons_append, List.nil_append, List.append_nil, List.replicate, List.getElem?_cons_zero, List.getElem?_cons_succ, List.set_cons_zero, List.set_cons_succ, Option.bind_some, Option.map_some, b_add, b_sub, c_lt, c_le, c_gt, c_ge, f_abs, f_int, f_lenL, f_lenT, decide_true, decide_false, if_true, if_false, Bool.false_eq_true, ite_dec, rngI, rngV, lcV, noOwn, CT.ix, List.all_cons, List.all_nil, Bool.and_true, Sl.own, Bool.not_false, wipeR, backR, bindT, setShs, asgTV, asgLV, called, lend, lent, home, List.take_succ_cons, List.take_zero, List.nodup_nil, List.nodup_cons, List.not_mem_nil, not_false_eq_true, and_self, itemsD, seqOf, Option.toList, enuI, Nat.reduceSub, Nat.reduceAdd, Nat.reduceEqDiff, rsSl, st_z, st_s, sr_z, sr_s, stb_sh, stb_no, stb_ow, d_asgS, d_aug, e_gc, e_sls, slsV, e_callK, asgSV, augV, setShs, permL, List.filterMap_cons, List.filterMap_nil, List.map_cons, List.map_nil, List.drop_zero, List.drop_succ_cons, and_true, true_and, Option.map_none, Option.bind_none, e', np, ns, c1, c2, d1, r1, e, xl0]
end
end Wr.SpTrg
namespace Lw_k44
open PySem PySem.Spec L2 Wr Wr.Cd
def c_law : CDef := { np := 1, ns := 10, body :=
    (.cons (.fors (.nm 1) (.rng (.cons (.bi .max2 (.cons (.int 1) (.cons (.bi .min2 (.cons (.int 3) (.cons (.bi .len (.cons (.var 0) .nil)) .nil))) .nil))) .nil))
    (.cons (.asg 2 (.call "_law_pot" (.ex (.var 0) (.ex (.var 1) .nil))))
    (.cons (.asg 3 (.call "_law_shape" (.io 2 (.ex (.int 8) .nil))))
    (.cons (.asg 4 (.call "_law_numbers" (.ex (.var 3) .nil)))
    (.cons (.asg 5 (.lst (.cons (.int 1) (.cons (.ix (.var 4) (.neg (.int 1))) (.cons (.bin .LShift (.int 1) (.call "_law_take" (.io 2 (.ex (.bin .Mult (.ix (.var 3) (.int 0)) (.ix (.var 3) (.int 1))) .nil)))) .nil)))))
    (.cons (.asg 5 (.bin .Add (.var 5) (.lc (.nm 9) (.rng (.cons (.int 8) .nil)) .nil (.bin .Add (.int 1) (.call "_law_take" (.io 2 (.ex (.ix (.var 4) (.neg (.int 1))) .nil)))))))
    (.cons (.fors (.nm 6) (.ex (.var 5))
    (.cons (.asg 7 (.call "_law_low" (.ex (.var 3) (.ex (.var 6) .nil))))
    (.cons (.fors (.nm 8) (.ex (.tup (.cons (.int 0) (.cons (.bin .Sub (.var 7) (.int 1)) (.cons (.var 7) (.cons (.bin .Add (.var 7) (.int 1)) (.cons (.int 40) (.cons (.call "_law_take" (.io 2 (.ex (.int 41) .nil))) .nil))))))))
    (.cons (.ifs (.bop true (.cons (.cmp .GtE (.var 8) (.int 0)) (.cons (.nt (.call "_law_term_right" (.ex (.var 3) (.ex (.var 6) (.ex (.var 8) .nil))))) .nil)))
    (.cons (.ret (.bl false))
    .nil)
    .nil)
    .nil))
    .nil)))
    .nil)))))))
    (.cons (.ret (.bl true))
    .nil)) }
def Δ (x : Str) : Option CDef :=
  if x = "is_integer" then some c_is_integer else
  if x = "input_bits" then some c_input_bits else
  if x = "bits_of" then some c_bits_of else
  if x = "places_of" then some c_places_of else
  if x = "weight" then some c_weight else
  if x = "least_place" then some c_least_place else
  if x = "bits_at" then some c_bits_at else
  if x = "merged" then some c_merged else
  if x = "tree_for" then some c_tree_for else
  if x = "is_input_bit" then some c_is_input_bit else
  if x = "parts_of" then some c_parts_of else
  if x = "tree_bits" then some c_tree_bits else
  if x = "shows_tree" then some c_shows_tree else
  if x = "_law_pot" then some c__law_pot else
  if x = "_law_take" then some c__law_take else
  if x = "_law_shape" then some c__law_shape else
  if x = "_law_numbers" then some c__law_numbers else
  if x = "_law_places" then some c__law_places else
  if x = "_law_is_whole" then some c__law_is_whole else
  if x = "_law_burden" then some c__law_burden else
  if x = "_law_low" then some c__law_low else
  if x = "_law_tree_seen" then some c__law_tree_seen else
  if x = "_law_is_tree" then some c__law_is_tree else
  if x = "_law_put_together" then some c__law_put_together else
  if x = "_law_low_told" then some c__law_low_told else
  if x = "_law_term_right" then some c__law_term_right else
  if x = "law" then some c_law else
  none
def dn (x : Str) : Bool := (Δ x).isSome
def tn (x : Str) : Bool := false
def po (x : Str) : Bool := true
def kw (x : Str) : List (Nat × List Str × List Nat) := []
def bn (x : Str) : Bool := decide (x = "abs") || decide (x = "bool") || decide (x = "int") || decide (x = "isinstance") || decide (x = "len") || decide (x = "list") || decide (x = "max") || decide (x = "min") || decide (x = "range") || decide (x = "repr") || decide (x = "set") || decide (x = "str") || decide (x = "sum") || decide (x = "tuple")
def gd (x : Str) : Option (List (Str × GV)) := none
def gc (x : Str) : Option GC := none
def xn (x : Str) : Option Str := if x = "TooLow" then some "value" else none
def xi (x : Str) : Bool := decide (x = "ReachError") || decide (x = "UnknownName") || decide (x = "NoPlace") || decide (x = "NotComputed") || decide (x = "TooLow") || decide (x = "TooMany")
def xs : List Str := ["TooLow"]
def mi : MI := ⟨dn, po, kw, bn, gd, gc, xn, xi, tn⟩
def topS (i : Nat) : Stmt := PySem.Challenge.pw_wordreach_k44_trees_for_terms.main.body.getD i (.Pass ⟨0, 0, 0, 0⟩)
theorem s_is_integer : DefS mi false false "is_integer" c_is_integer (topS 8) ["value"] ["value"] :=
  ⟨⟨rfl, rfl, rfl, by decide +kernel, rfl, by decide +kernel, by decide +kernel⟩, rfl, rfl, by decide +kernel, fun _ _ _ _ _ _ _ us hl => match us, hl with | [_], _ => rfl, fun q hq => nomatch (show q ∈ ([] : List (Nat × List Str × List Nat)) from hq)⟩
theorem s_input_bits : DefS mi false false "input_bits" c_input_bits (topS 9) ["shape", "width", "inputs"] ["shape"] :=
  ⟨⟨rfl, rfl, rfl, by decide +kernel, rfl, by decide +kernel, by decide +kernel⟩, rfl, rfl, by decide +kernel, fun _ _ _ _ _ _ _ us hl => match us, hl with | [_], _ => rfl, fun q hq => nomatch (show q ∈ ([] : List (Nat × List Str × List Nat)) from hq)⟩
theorem s_bits_of : DefS mi false false "bits_of" c_bits_of (topS 11) ["shape", "term", "bit"] ["shape", "term"] :=
  ⟨⟨rfl, rfl, rfl, by decide +kernel, rfl, by decide +kernel, by decide +kernel⟩, rfl, rfl, by decide +kernel, fun _ _ _ _ _ _ _ us hl => match us, hl with | [_, _], _ => rfl, fun q hq => nomatch (show q ∈ ([] : List (Nat × List Str × List Nat)) from hq)⟩
theorem s_places_of : DefS mi false false "places_of" c_places_of (topS 12) ["shape", "term", "width", "bit"] ["shape", "term"] :=
  ⟨⟨rfl, rfl, rfl, by decide +kernel, rfl, by decide +kernel, by decide +kernel⟩, rfl, rfl, by decide +kernel, fun _ _ _ _ _ _ _ us hl => match us, hl with | [_, _], _ => rfl, fun q hq => nomatch (show q ∈ ([] : List (Nat × List Str × List Nat)) from hq)⟩
theorem s_weight : DefS mi false false "weight" c_weight (topS 13) ["shape", "term", "place"] ["shape", "term"] :=
  ⟨⟨rfl, rfl, rfl, by decide +kernel, rfl, by decide +kernel, by decide +kernel⟩, rfl, rfl, by decide +kernel, fun _ _ _ _ _ _ _ us hl => match us, hl with | [_, _], _ => rfl, fun q hq => nomatch (show q ∈ ([] : List (Nat × List Str × List Nat)) from hq)⟩
theorem s_least_place : DefS mi false false "least_place" c_least_place (topS 15) ["shape", "term", "place"] ["shape", "term"] :=
  ⟨⟨rfl, rfl, rfl, by decide +kernel, rfl, by decide +kernel, by decide +kernel⟩, rfl, rfl, by decide +kernel, fun _ _ _ _ _ _ _ us hl => match us, hl with | [_, _], _ => rfl, fun q hq => nomatch (show q ∈ ([] : List (Nat × List Str × List Nat)) from hq)⟩
theorem s_bits_at : DefS mi false false "bits_at" c_bits_at (topS 16) ["shape", "term", "place", "bit"] ["shape", "term", "place"] :=
  ⟨⟨rfl, rfl, rfl, by decide +kernel, rfl, by decide +kernel, by decide +kernel⟩, rfl, rfl, by decide +kernel, fun _ _ _ _ _ _ _ us hl => match us, hl with | [_, _, _], _ => rfl, fun q hq => nomatch (show q ∈ ([] : List (Nat × List Str × List Nat)) from hq)⟩
theorem s_merged : DefS mi false false "merged" c_merged (topS 17) ["trees", "pairs", "at"] ["trees"] :=
  ⟨⟨rfl, rfl, rfl, by decide +kernel, rfl, by decide +kernel, by decide +kernel⟩, rfl, rfl, by decide +kernel, fun _ _ _ _ _ _ _ us hl => match us, hl with | [_], _ => rfl, fun q hq => nomatch (show q ∈ ([] : List (Nat × List Str × List Nat)) from hq)⟩
theorem s_tree_for : DefS mi false false "tree_for" c_tree_for (topS 18) ["shape", "term", "place", "least", "trees", "higher"] ["shape", "term", "place"] :=
  ⟨⟨rfl, rfl, rfl, by decide +kernel, rfl, by decide +kernel, by decide +kernel⟩, rfl, rfl, by decide +kernel, fun _ _ _ _ _ _ _ us hl => match us, hl with | [_, _, _], _ => rfl, fun q hq => nomatch (show q ∈ ([] : List (Nat × List Str × List Nat)) from hq)⟩
theorem s_is_input_bit : DefS mi false false "is_input_bit" c_is_input_bit (topS 19) ["shape", "place", "value"] ["shape", "place", "value"] :=
  ⟨⟨rfl, rfl, rfl, by decide +kernel, rfl, by decide +kernel, by decide +kernel⟩, rfl, rfl, by decide +kernel, fun _ _ _ _ _ _ _ us hl => match us, hl with | [_, _, _], _ => rfl, fun q hq => nomatch (show q ∈ ([] : List (Nat × List Str × List Nat)) from hq)⟩
theorem s_parts_of : DefS mi false false "parts_of" c_parts_of (topS 20) ["value"] ["value"] :=
  ⟨⟨rfl, rfl, rfl, by decide +kernel, rfl, by decide +kernel, by decide +kernel⟩, rfl, rfl, by decide +kernel, fun _ _ _ _ _ _ _ us hl => match us, hl with | [_], _ => rfl, fun q hq => nomatch (show q ∈ ([] : List (Nat × List Str × List Nat)) from hq)⟩
theorem s_tree_bits : DefS mi false false "tree_bits" c_tree_bits (topS 21) ["shape", "place", "value", "bits", "part", "found"] ["shape", "place", "value"] :=
  ⟨⟨rfl, rfl, rfl, by decide +kernel, rfl, by decide +kernel, by decide +kernel⟩, rfl, rfl, by decide +kernel, fun _ _ _ _ _ _ _ us hl => match us, hl with | [_, _, _], _ => rfl, fun q hq => nomatch (show q ∈ ([] : List (Nat × List Str × List Nat)) from hq)⟩
theorem s_shows_tree : DefS mi false false "shows_tree" c_shows_tree (topS 22) ["shape", "term", "place", "value"] ["shape", "term", "place", "value"] :=
  ⟨⟨rfl, rfl, rfl, by decide +kernel, rfl, by decide +kernel, by decide +kernel⟩, rfl, rfl, by decide +kernel, fun _ _ _ _ _ _ _ us hl => match us, hl with | [_, _, _, _], _ => rfl, fun q hq => nomatch (show q ∈ ([] : List (Nat × List Str × List Nat)) from hq)⟩
theorem s__law_pot : DefS mi false false "_law_pot" c__law_pot (topS 24) ["_law_script", "_law_k", "_law_cell", "_law_own"] ["_law_script", "_law_k"] :=
  ⟨⟨rfl, rfl, rfl, by decide +kernel, rfl, by decide +kernel, by decide +kernel⟩, rfl, rfl, by decide +kernel, fun _ _ _ _ _ _ _ us hl => match us, hl with | [_, _], _ => rfl, fun q hq => nomatch (show q ∈ ([] : List (Nat × List Str × List Nat)) from hq)⟩
theorem s__law_take : DefS mi false false "_law_take" c__law_take (topS 25) ["_law_pot_here", "_law_below", "_law_blend", "_law_digit"] ["_law_pot_here", "_law_below"] :=
  ⟨⟨rfl, rfl, rfl, by decide +kernel, rfl, by decide +kernel, by decide +kernel⟩, rfl, rfl, by decide +kernel, fun _ _ _ _ _ _ _ us hl => match us, hl with | [_, _], _ => rfl, fun q hq => nomatch (show q ∈ ([] : List (Nat × List Str × List Nat)) from hq)⟩
theorem s__law_shape : DefS mi false false "_law_shape" c__law_shape (topS 26) ["_law_pot_here", "_law_most", "_law_wide"] ["_law_pot_here", "_law_most"] :=
  ⟨⟨rfl, rfl, rfl, by decide +kernel, rfl, by decide +kernel, by decide +kernel⟩, rfl, rfl, by decide +kernel, fun _ _ _ _ _ _ _ us hl => match us, hl with | [_, _], _ => rfl, fun q hq => nomatch (show q ∈ ([] : List (Nat × List Str × List Nat)) from hq)⟩
theorem s__law_numbers : DefS mi false false "_law_numbers" c__law_numbers (topS 27) ["_law_form"] ["_law_form"] :=
  ⟨⟨rfl, rfl, rfl, by decide +kernel, rfl, by decide +kernel, by decide +kernel⟩, rfl, rfl, by decide +kernel, fun _ _ _ _ _ _ _ us hl => match us, hl with | [_], _ => rfl, fun q hq => nomatch (show q ∈ ([] : List (Nat × List Str × List Nat)) from hq)⟩
theorem s__law_places : DefS mi false false "_law_places" c__law_places (topS 28) ["_law_form", "_law_term", "_law_bit"] ["_law_form", "_law_term"] :=
  ⟨⟨rfl, rfl, rfl, by decide +kernel, rfl, by decide +kernel, by decide +kernel⟩, rfl, rfl, by decide +kernel, fun _ _ _ _ _ _ _ us hl => match us, hl with | [_, _], _ => rfl, fun q hq => nomatch (show q ∈ ([] : List (Nat × List Str × List Nat)) from hq)⟩
theorem s__law_is_whole : DefS mi false false "_law_is_whole" c__law_is_whole (topS 29) ["_law_thing"] ["_law_thing"] :=
  ⟨⟨rfl, rfl, rfl, by decide +kernel, rfl, by decide +kernel, by decide +kernel⟩, rfl, rfl, by decide +kernel, fun _ _ _ _ _ _ _ us hl => match us, hl with | [_], _ => rfl, fun q hq => nomatch (show q ∈ ([] : List (Nat × List Str × List Nat)) from hq)⟩
theorem s__law_burden : DefS mi false false "_law_burden" c__law_burden (topS 30) ["_law_form", "_law_term", "_law_spot"] ["_law_form", "_law_term"] :=
  ⟨⟨rfl, rfl, rfl, by decide +kernel, rfl, by decide +kernel, by decide +kernel⟩, rfl, rfl, by decide +kernel, fun _ _ _ _ _ _ _ us hl => match us, hl with | [_, _], _ => rfl, fun q hq => nomatch (show q ∈ ([] : List (Nat × List Str × List Nat)) from hq)⟩
theorem s__law_low : DefS mi false false "_law_low" c__law_low (topS 31) ["_law_form", "_law_term", "_law_place"] ["_law_form", "_law_term"] :=
  ⟨⟨rfl, rfl, rfl, by decide +kernel, rfl, by decide +kernel, by decide +kernel⟩, rfl, rfl, by decide +kernel, fun _ _ _ _ _ _ _ us hl => match us, hl with | [_, _], _ => rfl, fun q hq => nomatch (show q ∈ ([] : List (Nat × List Str × List Nat)) from hq)⟩
theorem s__law_tree_seen : DefS mi false false "_law_tree_seen" c__law_tree_seen (topS 32) ["_law_form", "_law_thing", "_law_parts", "_law_one"] ["_law_form", "_law_thing"] :=
  ⟨⟨rfl, rfl, rfl, by decide +kernel, rfl, by decide +kernel, by decide +kernel⟩, rfl, rfl, by decide +kernel, fun _ _ _ _ _ _ _ us hl => match us, hl with | [_, _], _ => rfl, fun q hq => nomatch (show q ∈ ([] : List (Nat × List Str × List Nat)) from hq)⟩
theorem s__law_is_tree : DefS mi false false "_law_is_tree" c__law_is_tree (topS 33) ["_law_form", "_law_term", "_law_place", "_law_thing", "_law_found", "_law_bits_met", "_law_bit"] ["_law_form", "_law_term", "_law_place", "_law_thing"] :=
  ⟨⟨rfl, rfl, rfl, by decide +kernel, rfl, by decide +kernel, by decide +kernel⟩, rfl, rfl, by decide +kernel, fun _ _ _ _ _ _ _ us hl => match us, hl with | [_, _, _, _], _ => rfl, fun q hq => nomatch (show q ∈ ([] : List (Nat × List Str × List Nat)) from hq)⟩
theorem s__law_put_together : DefS mi false false "_law_put_together" c__law_put_together (topS 34) ["_law_parts", "_law_found", "_law_place", "_law_bits"] ["_law_parts"] :=
  ⟨⟨rfl, rfl, rfl, by decide +kernel, rfl, by decide +kernel, by decide +kernel⟩, rfl, rfl, by decide +kernel, fun _ _ _ _ _ _ _ us hl => match us, hl with | [_], _ => rfl, fun q hq => nomatch (show q ∈ ([] : List (Nat × List Str × List Nat)) from hq)⟩
theorem s__law_low_told : DefS mi false false "_law_low_told" c__law_low_told (topS 35) ["_law_form", "_law_term", "_law_place", "_law_caught", "error"] ["_law_form", "_law_term", "_law_place"] :=
  ⟨⟨rfl, rfl, rfl, by decide +kernel, rfl, by decide +kernel, by decide +kernel⟩, rfl, rfl, by decide +kernel, fun _ _ _ _ _ _ _ us hl => match us, hl with | [_, _, _], _ => rfl, fun q hq => nomatch (show q ∈ ([] : List (Nat × List Str × List Nat)) from hq)⟩
theorem s__law_term_right : DefS mi false false "_law_term_right" c__law_term_right (topS 36) ["_law_form", "_law_term", "_law_place", "_law_least", "_law_found"] ["_law_form", "_law_term", "_law_place"] :=
  ⟨⟨rfl, rfl, rfl, by decide +kernel, rfl, by decide +kernel, by decide +kernel⟩, rfl, rfl, by decide +kernel, fun _ _ _ _ _ _ _ us hl => match us, hl with | [_, _, _], _ => rfl, fun q hq => nomatch (show q ∈ ([] : List (Nat × List Str × List Nat)) from hq)⟩
theorem s_law : DefS mi false false "law" c_law (topS 37) ["_law_script", "_law_k", "_law_pot_here", "_law_form", "_law_numbers_here", "_law_some", "_law_term", "_law_least", "_law_place", "_law_turn"] ["_law_script"] :=
  ⟨⟨rfl, rfl, rfl, by decide +kernel, rfl, by decide +kernel, by decide +kernel⟩, rfl, rfl, by decide +kernel, fun _ _ _ _ _ _ _ us hl => match us, hl with | [_], _ => rfl, fun q hq => nomatch (show q ∈ ([] : List (Nat × List Str × List Nat)) from hq)⟩
theorem n_TooLow : ∃ p1 p2 p3 p4, clsBody (topS 5) = [.Assign [.Attribute (.Name "self" p1) "value" p2] (.Name "value" p3) p4] := ⟨_, _, _, _, rfl⟩
theorem m_TooLow : FnScope ["self", "value"] ["self", "value"] (clsScope (topS 5)) := ⟨rfl, rfl, rfl, by decide +kernel, rfl, by decide +kernel, by decide +kernel⟩
theorem v_TooLow : ∀ (kV doc pm : Value) (an : Option Addr) (cdv ct : Value) (us : List Value), us.length = 2 → bindArgs (PySem.W.fnOf "__init__" "TooLow.__init__" (clsArgs (topS 5)) (clsBody (topS 5)) (clsScope (topS 5)) .none kV doc pm an cdv ct) ⟨us, []⟩ = pure ((["self", "value"] : List Str).zip us) := fun _ _ _ _ _ _ us hl => match us, hl with | [_, _], _ => rfl
instance i_is_integer : Df Δ "is_integer" c_is_integer := ⟨rfl⟩
instance i_input_bits : Df Δ "input_bits" c_input_bits := ⟨rfl⟩
instance i_bits_of : Df Δ "bits_of" c_bits_of := ⟨rfl⟩
instance i_places_of : Df Δ "places_of" c_places_of := ⟨rfl⟩
instance i_weight : Df Δ "weight" c_weight := ⟨rfl⟩
instance i_least_place : Df Δ "least_place" c_least_place := ⟨rfl⟩
instance i_bits_at : Df Δ "bits_at" c_bits_at := ⟨rfl⟩
instance i_merged : Df Δ "merged" c_merged := ⟨rfl⟩
instance i_tree_for : Df Δ "tree_for" c_tree_for := ⟨rfl⟩
instance i_is_input_bit : Df Δ "is_input_bit" c_is_input_bit := ⟨rfl⟩
instance i_parts_of : Df Δ "parts_of" c_parts_of := ⟨rfl⟩
instance i_tree_bits : Df Δ "tree_bits" c_tree_bits := ⟨rfl⟩
instance i_shows_tree : Df Δ "shows_tree" c_shows_tree := ⟨rfl⟩
instance i__law_pot : Df Δ "_law_pot" c__law_pot := ⟨rfl⟩
instance i__law_take : Df Δ "_law_take" c__law_take := ⟨rfl⟩
instance i__law_shape : Df Δ "_law_shape" c__law_shape := ⟨rfl⟩
instance i__law_numbers : Df Δ "_law_numbers" c__law_numbers := ⟨rfl⟩
instance i__law_places : Df Δ "_law_places" c__law_places := ⟨rfl⟩
instance i__law_is_whole : Df Δ "_law_is_whole" c__law_is_whole := ⟨rfl⟩
instance i__law_burden : Df Δ "_law_burden" c__law_burden := ⟨rfl⟩
instance i__law_low : Df Δ "_law_low" c__law_low := ⟨rfl⟩
instance i__law_tree_seen : Df Δ "_law_tree_seen" c__law_tree_seen := ⟨rfl⟩
instance i__law_is_tree : Df Δ "_law_is_tree" c__law_is_tree := ⟨rfl⟩
instance i__law_put_together : Df Δ "_law_put_together" c__law_put_together := ⟨rfl⟩
instance i__law_low_told : Df Δ "_law_low_told" c__law_low_told := ⟨rfl⟩
instance i__law_term_right : Df Δ "_law_term_right" c__law_term_right := ⟨rfl⟩
instance i_law : Df Δ "law" c_law := ⟨rfl⟩
end Lw_k44
namespace Lw_k44
open PySem PySem.Spec L2 Wr Wr.Cd Wr.SpJ Wr.SpB Wr.SpT Wr.SpTl Wr.SpTre Wr.SpTrf Wr.SpTrm Wr.SpTrg
theorem isA {v : D} : isxD ["NoPlace", "NotComputed", "TooMany", "UnknownName"] (.xc "TooLow" "value" v) = some false := rfl
theorem isB {v : D} : isxD ["TooLow"] (.xc "TooLow" "value" v) = some true := rfl
theorem atv {x : Str} {v : D} : attD "value" (.xc x "value" v) = some v := rfl
theorem low_told_ok {cf : Fn} {F a b v : D} (h : cf "tree_for" [.sh F, .sh a, .sh b] = .ex ⟨"TooLow", [("value", v)]⟩ [.sh F, .sh a, .sh b]) :
    runD cf c__law_low_told [.sh F, .sh a, .sh b] = .ok (.sh v) [.sh F, .sh a, .sh b] := by
  simp only [c__law_low_told, d_tryx, tryV, tbV, setNo, e_isx, e_att, runD, List.length_cons, List.length_nil, d_nil, d_cons, e_var, e_int, e_bl, e_non, e_str, e_fnc, e_bin, e_neg, e_inv, e_cmp, e_chn, e_bop, e_nt, e_ite, e_tup, e_tupS, evSt, e_lst, e_dct, e_dctT, e_popL, d_setd, d_asgL, e_gd, e_spl, e_ptn, e_ix, e_sl, e_bi, e_isi, e_rngL, e_rngT, e_call, e_call0, e_callV, e_dget, e_lc2, e_lc, d_asg, d_asgT, d_par, d_seti, d_app, d_ext, d_exp, d_ifs, d_fors, d_ret, d_retN, d_pass, d_brk, d_cnt, sms, smA, smO, smI, Sm.of, Sm.vt, smVar, rdVar, op1, op2, Re.bd, Re.of, Pl.at, slD?, truD, Rs.d, asgV, biV, evBs, plAll, evEs, evOp, evA, evTo, evO, evTs, List.cons_append, List.nil_append, List.append_nil, List.replicate, List.getElem?_cons_zero, List.getElem?_cons_succ, List.set_cons_zero, List.set_cons_succ, Option.bind_some, Option.map_some, b_add, b_sub, c_lt, c_le, c_gt, c_ge, f_abs, f_int, f_lenL, f_lenT, decide_true, decide_false, if_true, if_false, Bool.false_eq_true, ite_dec, rngI, rngV, lcV, noOwn, CT.ix, List.all_cons, List.all_nil, Bool.and_true, Sl.own, Bool.not_false, wipeR, backR, bindT, setShs, asgTV, asgLV, called, lend, lent, home, List.take_succ_cons, List.take_zero, List.nodup_nil, List.nodup_cons, List.not_mem_nil, not_false_eq_true, and_self, itemsD, seqOf, Option.toList, enuI, Nat.reduceSub, Nat.reduceAdd, Nat.reduceEqDiff, rsSl, st_z, st_s, sr_z, sr_s, stb_sh, stb_no, stb_ow, d_asgS, d_aug, e_gc, e_sls, slsV, e_callK, asgSV, augV, setShs, permL, List.filterMap_cons, List.filterMap_nil, List.map_cons, List.map_nil, List.drop_zero, List.drop_succ_cons, and_true, true_and, Option.map_none, Option.bind_none, h, isA, isB, atv]
  simp only [ne_eq, Nat.reduceEqDiff, not_false_eq_true, if_true, Option.bind_some, runD, List.length_cons, List.length_nil, d_nil, d_cons, e_var, e_int, e_bl, e_non, e_str, e_fnc, e_bin, e_neg, e_inv, e_cmp, e_chn, e_bop, e_nt, e_ite, e_tup, e_tupS, evSt, e_lst, e_dct, e_dctT, e_popL, d_setd, d_asgL, e_gd, e_spl, e_ptn, e_ix, e_sl, e_bi, e_isi, e_rngL, e_rngT, e_call, e_call0, e_callV, e_dget, e_lc2, e_lc, d_asg, d_asgT, d_par, d_seti, d_app, d_ext, d_exp, d_ifs, d_fors, d_ret, d_retN, d_pass, d_brk, d_cnt, sms, smA, smO, smI, Sm.of, Sm.vt, smVar, rdVar, op1, op2, Re.bd, Re.of, Pl.at, slD?, truD, Rs.d, asgV, biV, evBs, plAll, evEs, evOp, evA, evTo, evO, evTs, List.cons_append, List.nil_append, List.append_nil, List.replicate, List.getElem?_cons_zero, List.getElem?_cons_succ, List.set_cons_zero, List.set_cons_succ, Option.bind_some, Option.map_some, b_add, b_sub, c_lt, c_le, c_gt, c_ge, f_abs, f_int, f_lenL, f_lenT, decide_true, decide_false, if_true, if_false, Bool.false_eq_true, ite_dec, rngI, rngV, lcV, noOwn, CT.ix, List.all_cons, List.all_nil, Bool.and_true, Sl.own, Bool.not_false, wipeR, backR, bindT, setShs, asgTV, asgLV, called, lend, lent, home, List.take_succ_cons, List.take_zero, List.nodup_nil, List.nodup_cons, List.not_mem_nil, not_false_eq_true, and_self, itemsD, seqOf, Option.toList, enuI, Nat.reduceSub, Nat.reduceAdd, Nat.reduceEqDiff, rsSl, st_z, st_s, sr_z, sr_s, stb_sh, stb_no, stb_ow, d_asgS, d_aug, e_gc, e_sls, slsV, e_callK, asgSV, augV, setShs, permL, List.filterMap_cons, List.filterMap_nil, List.map_cons, List.map_nil, List.drop_zero, List.drop_succ_cons, and_true, true_and, Option.map_none, Option.bind_none, isA, isB, atv, e_isx, e_att, tryV, setNo, Bool.not_true]
section
variable {w i x : Nat} (hw0 : 0 < w) (hw : w ≤ 8) (hi : i ≤ 4) (hx : x < 2 ^ (w * i)) (hwi : w * i ≤ 8) (h0 : 0 < x)
include hw0 hw hi hx hwi h0
theorem right_ok {k p : Nat} (hk : k ≤ 17) (h1 : ∀ j, j < k → 2 ^ j < wt (pl w i x)) (h2 : wt (pl w i x) ≤ 2 ^ k) (hp : p ≤ 40) : fnN Δ 59 "_law_term_right" [.sh (shp w i), .sh (.int x), .sh (.int ((p : Nat) : Int))] = .ok (.sh (.bl true)) [.sh (shp w i), .sh (.int x), .sh (.int ((p : Nat) : Int))] := by
  show fnN Δ (58 + 1) _ _ = _
  rw [df "_law_term_right"]
  have x8 : x < 2 ^ 8 := Nat.lt_of_lt_of_le hx (Nat.pow_le_pow_right (by decide) hwi)
  have c1 : fnN Δ 58 "_law_low" _ = _ := low_ok (Δ := Δ) hw0 hw hi x8 (by omega) h1 h2 55
  generalize hcf : fnN Δ 58 = cf at c1 ⊢
  by_cases hc : p < k
  · have c2 : cf "_law_low_told" [.sh (shp w i), .sh (.int x), .sh (.int ((p : Nat) : Int))] = .ok (.sh (.int ((k : Nat) : Int))) [.sh (shp w i), .sh (.int x), .sh (.int ((p : Nat) : Int))] := by
      rw [← hcf]
      show fnN Δ (57 + 1) _ _ = _
      rw [df "_law_low_told"]
      exact low_told_ok (low_told (Δ := Δ) hw0 hw hi hx hwi (by omega) h1 h2 51 hc)
    have d1 : decide (((p : Nat) : Int) < ((k : Nat) : Int)) = true := decide_eq_true (by omega)
    obtain ⟨t, r1⟩ := repr_int (n := ((k : Nat) : Int)) (by omega)
    simp only [c__law_term_right, runD, List.length_cons, List.length_nil, d_nil, d_cons, e_var, e_int, e_bl, e_non, e_str, e_fnc, e_bin, e_neg, e_inv, e_cmp, e_chn, e_bop, e_nt, e_ite, e_tup, e_tupS, evSt, e_lst, e_dct, e_dctT, e_popL, d_setd, d_asgL, e_gd, e_spl, e_ptn, e_ix, e_sl, e_bi, e_isi, e_rngL, e_rngT, e_call, e_call0, e_callV, e_dget, e_lc2, e_lc, d_asg, d_asgT, d_par, d_seti, d_app, d_ext, d_exp, d_ifs, d_fors, d_ret, d_retN, d_pass, d_brk, d_cnt, sms, smA, smO, smI, Sm.of, Sm.vt, smVar, rdVar, op1, op2, Re.bd, Re.of, Pl.at, slD?, truD, Rs.d, asgV, biV, evBs, plAll, evEs, evOp, evA, evTo, evO, evTs, List.cons_append, List.nil_append, List.append_nil, List.replicate, List.getElem?_cons_zero, List.getElem?_cons_succ, List.set_cons_zero, List.set_cons_succ, Option.bind_some, Option.map_some, b_add, b_sub, c_lt, c_le, c_gt, c_ge, f_abs, f_int, f_lenL, f_lenT, decide_true, decide_false, if_true, if_false, Bool.false_eq_true, ite_dec, rngI, rngV, lcV, noOwn, CT.ix, List.all_cons, List.all_nil, Bool.and_true, Sl.own, Bool.not_false, wipeR, backR, bindT, setShs, asgTV, asgLV, called, lend, lent, home, List.take_succ_cons, List.take_zero, List.nodup_nil, List.nodup_cons, List.not_mem_nil, not_false_eq_true, and_self, itemsD, seqOf, Option.toList, enuI, Nat.reduceSub, Nat.reduceAdd, Nat.reduceEqDiff, rsSl, st_z, st_s, sr_z, sr_s, stb_sh, stb_no, stb_ow, d_asgS, d_aug, e_gc, e_sls, slsV, e_callK, asgSV, augV, setShs, permL, List.filterMap_cons, List.filterMap_nil, List.map_cons, List.map_nil, List.drop_zero, List.drop_succ_cons, and_true, true_and, Option.map_none, Option.bind_none, c1, c2, d1, r1, c_eqS]
  · obtain ⟨t, t1, t2, t3, c3⟩ := tree_ok (Δ := Δ) hw0 hw hi hx hwi h0 (by omega) h1 h2 52 (show k ≤ p by omega) hp
    have c3 : cf "tree_for" [.sh (shp w i), .sh (.int x), .sh (.int ((p : Nat) : Int))] = .ok (.sh t.d) [.sh (shp w i), .sh (.int x), .sh (.int ((p : Nat) : Int))] := by rw [← hcf]; exact c3
    have c4 : cf "_law_is_tree" [.sh (shp w i), .sh (.int x), .sh (.int ((p : Nat) : Int)), .sh t.d] = .ok (.sh (.bl true)) [.sh (shp w i), .sh (.int x), .sh (.int ((p : Nat) : Int)), .sh t.d] := by
      rw [← hcf, show 58 = (55 - p) + p + 3 by omega]
      exact is_ok (Δ := Δ) hw0 hw hi t p (55 - p) t1 t2 t3
    have c5 : cf "shows_tree" [.sh (shp w i), .sh (.int x), .sh (.int ((p : Nat) : Int)), .sh t.d] = .ok (.sh (.bl true)) [.sh (shp w i), .sh (.int x), .sh (.int ((p : Nat) : Int)), .sh t.d] := by
      rw [← hcf, show 58 = (54 - p) + p + 4 by omega]
      exact shows_ok (Δ := Δ) hw0 hw hi t p (54 - p) t1 t2 t3
    have d1 : decide (((p : Nat) : Int) < ((k : Nat) : Int)) = false := decide_eq_false (by omega)
    have e1 : cmpop .Is (.bl true) (.bl true) = some true := rfl
    simp only [c__law_term_right, runD, List.length_cons, List.length_nil, d_nil, d_cons, e_var, e_int, e_bl, e_non, e_str, e_fnc, e_bin, e_neg, e_inv, e_cmp, e_chn, e_bop, e_nt, e_ite, e_tup, e_tupS, evSt, e_lst, e_dct, e_dctT, e_popL, d_setd, d_asgL, e_gd, e_spl, e_ptn, e_ix, e_sl, e_bi, e_isi, e_rngL, e_rngT, e_call, e_call0, e_callV, e_dget, e_lc2, e_lc, d_asg, d_asgT, d_par, d_seti, d_app, d_ext, d_exp, d_ifs, d_fors, d_ret, d_retN, d_pass, d_brk, d_cnt, sms, smA, smO, smI, Sm.of, Sm.vt, smVar, rdVar, op1, op2, Re.bd, Re.of, Pl.at, slD?, truD, Rs.d, asgV, biV, evBs, plAll, evEs, evOp, evA, evTo, evO, evTs, List.cons_append, List.nil_append, List.append_nil, List.replicate, List.getElem?_cons_zero, List.getElem?_cons_succ, List.set_cons_zero, List.set_cons_succ, Option.bind_some, Option.map_some, b_add, b_sub, c_lt, c_le, c_gt, c_ge, f_abs, f_int, f_lenL, f_lenT, decide_true, decide_false, if_true, if_false, Bool.false_eq_true, ite_dec, rngI, rngV, lcV, noOwn, CT.ix, List.all_cons, List.all_nil, Bool.and_true, Sl.own, Bool.not_false, wipeR, backR, bindT, setShs, asgTV, asgLV, called, lend, lent, home, List.take_succ_cons, List.take_zero, List.nodup_nil, List.nodup_cons, List.not_mem_nil, not_false_eq_true, and_self, itemsD, seqOf, Option.toList, enuI, Nat.reduceSub, Nat.reduceAdd, Nat.reduceEqDiff, rsSl, st_z, st_s, sr_z, sr_s, stb_sh, stb_no, stb_ow, d_asgS, d_aug, e_gc, e_sls, slsV, e_callK, asgSV, augV, setShs, permL, List.filterMap_cons, List.filterMap_nil, List.map_cons, List.map_nil, List.drop_zero, List.drop_succ_cons, and_true, true_and, Option.map_none, Option.bind_none, c1, c3, c4, c5, d1, e1]
end
def bd8 : CSs := (.cons (.ifs (.bop true (.cons (.cmp .GtE (.var 8) (.int 0)) (.cons (.nt (.call "_law_term_right" (.ex (.var 3) (.ex (.var 6) (.ex (.var 8) .nil))))) .nil)))
    (.cons (.ret (.bl false))
    .nil)
    .nil)
    .nil)
def bd6 : CSs := (.cons (.asg 7 (.call "_law_low" (.ex (.var 3) (.ex (.var 6) .nil))))
    (.cons (.fors (.nm 8) (.ex (.tup (.cons (.int 0) (.cons (.bin .Sub (.var 7) (.int 1)) (.cons (.var 7) (.cons (.bin .Add (.var 7) (.int 1)) (.cons (.int 40) (.cons (.call "_law_take" (.io 2 (.ex (.int 41) .nil))) .nil)))))))) bd8)
    .nil))
def itL : CI := .rng (.cons (.int 8) .nil)
def eL : CE := .bin .Add (.int 1) (.call "_law_take" (.io 2 (.ex (.ix (.var 4) (.neg (.int 1))) .nil)))
def bd1 : CSs := (.cons (.asg 2 (.call "_law_pot" (.ex (.var 0) (.ex (.var 1) .nil))))
    (.cons (.asg 3 (.call "_law_shape" (.io 2 (.ex (.int 8) .nil))))
    (.cons (.asg 4 (.call "_law_numbers" (.ex (.var 3) .nil)))
    (.cons (.asg 5 (.lst (.cons (.int 1) (.cons (.ix (.var 4) (.neg (.int 1))) (.cons (.bin .LShift (.int 1) (.call "_law_take" (.io 2 (.ex (.bin .Mult (.ix (.var 3) (.int 0)) (.ix (.var 3) (.int 1))) .nil)))) .nil)))))
    (.cons (.asg 5 (.bin .Add (.var 5) (.lc (.nm 9) itL .nil eL)))
    (.cons (.fors (.nm 6) (.ex (.var 5)) bd6)
    .nil))))))
theorem law_eq : c_law.body = topBody bd1 := rfl
theorem take_n (n : Nat) {c : Nat} {pot : D} {m : Nat} (hp : PotI c pot) (hc : c ≤ 100000) (h0 : 0 < m) (hm : m ≤ 100000) : ∃ r pot', r < m ∧ PotI (c + 1) pot' ∧ fnN Δ (n + 1) "_law_take" [.io pot, .sh (.int ((m : Nat) : Int))] = .ok (.sh (.int ((r : Nat) : Int))) [.io pot', .sh (.int ((m : Nat) : Int))] := by
  have t60 : (2 : Nat) ^ 60 = 1152921504606846976 := by decide
  obtain ⟨r, pot', r0, r1, hp', e1⟩ := take_ok (fnN Δ n) (m := ((m : Nat) : Int)) hp (by omega) (by omega) (show In 100 (((m : Nat)) : Int) from .of (by omega) (by omega))
  obtain ⟨j, rfl⟩ : ∃ j : Nat, r = (j : Int) := ⟨r.toNat, by rw [Int.toNat_of_nonneg r0]⟩
  exact ⟨j, pot', by omega, hp', (df "_law_take" _ _).trans e1⟩
theorem turn8 {w i x : Nat} (hw0 : 0 < w) (hw : w ≤ 8) (hi : i ≤ 4) (hx : x < 2 ^ (w * i)) (hwi : w * i ≤ 8) (h0 : 0 < x) {k : Nat} (hk : k ≤ 17) (h1 : ∀ j, j < k → 2 ^ j < wt (pl w i x)) (h2 : wt (pl w i x) ≤ 2 ^ k) {z : Int} (hz : z ≤ 40) {a0 a1 a2 a4 a5 a7 s8 a9 : Sl} (h8 : stb s8) :
    Wr.forTurn (.nm 8) (sss (fnN Δ 59) bd8) (.int z) [a0, a1, a2, .sh (shp w i), a4, a5, .sh (.int (x : Int)), a7, s8, a9] = .ok .nx [a0, a1, a2, .sh (shp w i), a4, a5, .sh (.int (x : Int)), a7, .sh (.int z), a9] := by
  by_cases hc : 0 ≤ z
  · obtain ⟨p, rfl⟩ : ∃ p : Nat, z = (p : Int) := ⟨z.toNat, by rw [Int.toNat_of_nonneg hc]⟩
    have c := right_ok hw0 hw hi hx hwi h0 hk h1 h2 (p := p) (by omega)
    generalize fnN Δ 59 = cf at c ⊢
    have d1 : decide ((0 : Int) ≤ ((p : Nat) : Int)) = true := decide_eq_true hc
    simp only [Wr.forTurn, bd8, runD, List.length_cons, List.length_nil, d_nil, d_cons, e_var, e_int, e_bl, e_non, e_str, e_fnc, e_bin, e_neg, e_inv, e_cmp, e_chn, e_bop, e_nt, e_ite, e_tup, e_tupS, evSt, e_lst, e_dct, e_dctT, e_popL, d_setd, d_asgL, e_gd, e_spl, e_ptn, e_ix, e_sl, e_bi, e_isi, e_rngL, e_rngT, e_call, e_call0, e_callV, e_dget, e_lc2, e_lc, d_asg, d_asgT, d_par, d_seti, d_app, d_ext, d_exp, d_ifs, d_fors, d_ret, d_retN, d_pass, d_brk, d_cnt, sms, smA, smO, smI, Sm.of, Sm.vt, smVar, rdVar, op1, op2, Re.bd, Re.of, Pl.at, slD?, truD, Rs.d, asgV, biV, evBs, plAll, evEs, evOp, evA, evTo, evO, evTs, List.cons_append, List.nil_append, List.append_nil, List.replicate, List.getElem?_cons_zero, List.getElem?_cons_succ, List.set_cons_zero, List.set_cons_succ, Option.bind_some, Option.map_some, b_add, b_sub, c_lt, c_le, c_gt, c_ge, f_abs, f_int, f_lenL, f_lenT, decide_true, decide_false, if_true, if_false, Bool.false_eq_true, ite_dec, rngI, rngV, lcV, noOwn, CT.ix, List.all_cons, List.all_nil, Bool.and_true, Sl.own, Bool.not_false, wipeR, backR, bindT, setShs, asgTV, asgLV, called, lend, lent, home, List.take_succ_cons, List.take_zero, List.nodup_nil, List.nodup_cons, List.not_mem_nil, not_false_eq_true, and_self, itemsD, seqOf, Option.toList, enuI, Nat.reduceSub, Nat.reduceAdd, Nat.reduceEqDiff, rsSl, st_z, st_s, sr_z, sr_s, stb_sh, stb_no, stb_ow, d_asgS, d_aug, e_gc, e_sls, slsV, e_callK, asgSV, augV, setShs, permL, List.filterMap_cons, List.filterMap_nil, List.map_cons, List.map_nil, List.drop_zero, List.drop_succ_cons, and_true, true_and, Option.map_none, Option.bind_none, h8, c, d1, Bool.not_true]
  · generalize fnN Δ 59 = cf
    have d1 : decide ((0 : Int) ≤ z) = false := decide_eq_false hc
    simp only [Wr.forTurn, bd8, runD, List.length_cons, List.length_nil, d_nil, d_cons, e_var, e_int, e_bl, e_non, e_str, e_fnc, e_bin, e_neg, e_inv, e_cmp, e_chn, e_bop, e_nt, e_ite, e_tup, e_tupS, evSt, e_lst, e_dct, e_dctT, e_popL, d_setd, d_asgL, e_gd, e_spl, e_ptn, e_ix, e_sl, e_bi, e_isi, e_rngL, e_rngT, e_call, e_call0, e_callV, e_dget, e_lc2, e_lc, d_asg, d_asgT, d_par, d_seti, d_app, d_ext, d_exp, d_ifs, d_fors, d_ret, d_retN, d_pass, d_brk, d_cnt, sms, smA, smO, smI, Sm.of, Sm.vt, smVar, rdVar, op1, op2, Re.bd, Re.of, Pl.at, slD?, truD, Rs.d, asgV, biV, evBs, plAll, evEs, evOp, evA, evTo, evO, evTs, List.cons_append, List.nil_append, List.append_nil, List.replicate, List.getElem?_cons_zero, List.getElem?_cons_succ, List.set_cons_zero, List.set_cons_succ, Option.bind_some, Option.map_some, b_add, b_sub, c_lt, c_le, c_gt, c_ge, f_abs, f_int, f_lenL, f_lenT, decide_true, decide_false, if_true, if_false, Bool.false_eq_true, ite_dec, rngI, rngV, lcV, noOwn, CT.ix, List.all_cons, List.all_nil, Bool.and_true, Sl.own, Bool.not_false, wipeR, backR, bindT, setShs, asgTV, asgLV, called, lend, lent, home, List.take_succ_cons, List.take_zero, List.nodup_nil, List.nodup_cons, List.not_mem_nil, not_false_eq_true, and_self, itemsD, seqOf, Option.toList, enuI, Nat.reduceSub, Nat.reduceAdd, Nat.reduceEqDiff, rsSl, st_z, st_s, sr_z, sr_s, stb_sh, stb_no, stb_ow, d_asgS, d_aug, e_gc, e_sls, slsV, e_callK, asgSV, augV, setShs, permL, List.filterMap_cons, List.filterMap_nil, List.map_cons, List.map_nil, List.drop_zero, List.drop_succ_cons, and_true, true_and, Option.map_none, Option.bind_none, h8, d1]
theorem turn6 {w i x : Nat} (hw0 : 0 < w) (hw : w ≤ 8) (hi : i ≤ 4) (hx : x < 2 ^ (w * i)) (hwi : w * i ≤ 8) (h0 : 0 < x) {c : Nat} {pot : D} (hp : PotI c pot) (hc : c ≤ 1000) {a0 a1 a4 a5 s6 s7 s8 a9 : Sl} (h6 : stb s6) (h7 : stb s7) (h8 : stb s8) :
    ∃ ρ', Wr.forTurn (.nm 6) (sss (fnN Δ 59) bd6) (.int (x : Int)) [a0, a1, .ow pot, .sh (shp w i), a4, a5, s6, s7, s8, a9] = .ok .nx ρ' ∧ ∃ pot' s6 s7 s8, PotI (c + 1) pot' ∧ stb s6 ∧ stb s7 ∧ stb s8 ∧ ρ' = [a0, a1, .ow pot', .sh (shp w i), a4, a5, s6, s7, s8, a9] := by
  have x8 : x < 2 ^ 8 := Nat.lt_of_lt_of_le hx (Nat.pow_le_pow_right (by decide) hwi)
  obtain ⟨k, hk, h1, h2⟩ := lp_ex (wt (pl w i x)) 17 (wt_small hw0 hw hi)
  have c1 : fnN Δ 59 "_law_low" [.sh (shp w i), .sh (.int x)] = .ok (.sh (.int (k : Int))) [.sh (shp w i), .sh (.int x)] := low_ok (Δ := Δ) hw0 hw hi x8 (by omega) h1 h2 56
  obtain ⟨r, pot', hr, hp', c2⟩ := take_n 58 (m := 41) hp (by omega) (by decide) (by decide)
  have c2 : fnN Δ 59 "_law_take" [.io pot, .sh (.int 41)] = .ok (.sh (.int ((r : Nat) : Int))) [.io pot', .sh (.int 41)] := c2
  obtain ⟨ρ', e, s8', g8, rfl⟩ := forW_keep (cf := fnN Δ 59) (tg := .nm 8) (body := bd8) (xs := [.int 0, .int ((k : Int) - 1), .int (k : Int), .int ((k : Int) + 1), .int 40, .int ((r : Nat) : Int)]) (ρ := [a0, a1, .ow pot', .sh (shp w i), a4, a5, .sh (.int (x : Int)), .sh (.int (k : Int)), s8, a9])
    (fun ρ => ∃ s8, stb s8 ∧ ρ = [a0, a1, .ow pot', .sh (shp w i), a4, a5, .sh (.int (x : Int)), .sh (.int (k : Int)), s8, a9]) ⟨s8, h8, rfl⟩ (by
      rintro y hy ρ ⟨s8, h8, rfl⟩
      simp only [List.mem_cons, List.not_mem_nil, or_false] at hy
      rcases hy with rfl | rfl | rfl | rfl | rfl | rfl <;> exact ⟨_, turn8 hw0 hw hi hx hwi h0 hk h1 h2 (by omega) h8, _, stb_sh, rfl⟩)
  refine ⟨_, ?_, pot', .sh (.int (x : Int)), .sh (.int (k : Int)), s8', hp', stb_sh, stb_sh, g8, rfl⟩
  have z6 : 0 + 1 + 1 + 1 + 1 + 1 + 1 ≤ sizeL := by decide
  generalize fnN Δ 59 = cf at c1 c2 e ⊢
  simp only [Wr.forTurn, bd6, i_ex, runD, List.length_cons, List.length_nil, d_nil, d_cons, e_var, e_int, e_bl, e_non, e_str, e_fnc, e_bin, e_neg, e_inv, e_cmp, e_chn, e_bop, e_nt, e_ite, e_tup, e_tupS, evSt, e_lst, e_dct, e_dctT, e_popL, d_setd, d_asgL, e_gd, e_spl, e_ptn, e_ix, e_sl, e_bi, e_isi, e_rngL, e_rngT, e_call, e_call0, e_callV, e_dget, e_lc2, e_lc, d_asg, d_asgT, d_par, d_seti, d_app, d_ext, d_exp, d_ifs, d_fors, d_ret, d_retN, d_pass, d_brk, d_cnt, sms, smA, smO, smI, Sm.of, Sm.vt, smVar, rdVar, op1, op2, Re.bd, Re.of, Pl.at, slD?, truD, Rs.d, asgV, biV, evBs, plAll, evEs, evOp, evA, evTo, evO, evTs, List.cons_append, List.nil_append, List.append_nil, List.replicate, List.getElem?_cons_zero, List.getElem?_cons_succ, List.set_cons_zero, List.set_cons_succ, Option.bind_some, Option.map_some, b_add, b_sub, c_lt, c_le, c_gt, c_ge, f_abs, f_int, f_lenL, f_lenT, decide_true, decide_false, if_true, if_false, Bool.false_eq_true, ite_dec, rngI, rngV, lcV, noOwn, CT.ix, List.all_cons, List.all_nil, Bool.and_true, Sl.own, Bool.not_false, wipeR, backR, bindT, setShs, asgTV, asgLV, called, lend, lent, home, List.take_succ_cons, List.take_zero, List.nodup_nil, List.nodup_cons, List.not_mem_nil, not_false_eq_true, and_self, itemsD, seqOf, Option.toList, enuI, Nat.reduceSub, Nat.reduceAdd, Nat.reduceEqDiff, rsSl, st_z, st_s, sr_z, sr_s, stb_sh, stb_no, stb_ow, d_asgS, d_aug, e_gc, e_sls, slsV, e_callK, asgSV, augV, setShs, permL, List.filterMap_cons, List.filterMap_nil, List.map_cons, List.map_nil, List.drop_zero, List.drop_succ_cons, and_true, true_and, Option.map_none, Option.bind_none, h6, h7, c1, c2, e, z6]
theorem last_nat {n : Nat} (h : 0 < n) : ixD (.lst (natsD (List.range n))) (.int (-1)) = some (.int ((n - 1 : Nat) : Int)) := by
  have l : (natsD (List.range n)).length = n := by unfold natsD; rw [List.length_map, List.length_range]
  show atI (natsD (List.range n)) (-1) = _
  have z : atI (natsD (List.range n)) (-1) = (natsD (List.range n))[n - 1]? := by
    have e : ixN n (-1) = some (n - 1) := by
      unfold ixN
      have h1 : ¬ (0 : Int) ≤ -1 := by decide
      have h2 : -((n : Nat) : Int) ≤ -1 := by omega
      have h3 : (-1 + ((n : Nat) : Int)).toNat = n - 1 := by omega
      simp only [h1, h2, h3, false_and, if_false, if_true]
    unfold atI
    rw [l, e]
    rfl
  rw [z]
  unfold natsD
  rw [List.getElem?_map, List.getElem?_range (by omega)]
  rfl
theorem turnL {m c : Nat} {pot : D} (hp : PotI c pot) (hc : c ≤ 1000) (hm : 1 ≤ m) (h8 : m ≤ 8) {y : D} {a0 a1 a3 a5 a6 a7 a8 s9 : Sl} (h9 : stb s9) {tl : D} (ht : tl = .lst (natsD (List.range (2 ^ m)))) {sw : Sl} (hs : sw = .sh tl ∨ sw = .ow tl) :
    ∃ (z : Nat) (pot' : D) , 1 ≤ z ∧ z < 2 ^ m ∧ PotI (c + 1) pot' ∧ lcTurn (.nm 9) [] (sm (fnN Δ 59) eL) y [a0, a1, .ow pot, a3, sw, a5, a6, a7, a8, s9] = .ok (some (.int ((z : Nat) : Int))) [a0, a1, .ow pot', a3, sw, a5, a6, a7, a8, .no] := by
  have p8 : 2 ^ m ≤ 2 ^ 8 := Nat.pow_le_pow_right (by decide) h8
  have p1 : 2 ^ 1 ≤ 2 ^ m := Nat.pow_le_pow_right (by decide) hm
  obtain ⟨r, pot', hr, hp', c2⟩ := take_n 58 (m := 2 ^ m - 1) hp (by omega) (by omega) (by omega)
  refine ⟨r + 1, pot', by omega, by omega, hp', ?_⟩
  have la := last_nat (n := 2 ^ m) (by omega)
  have ng : negD (.int 1) = some (.sh (.int (-1))) := rfl
  have e1 : (1 : Int) + ((r : Nat) : Int) = ((r + 1 : Nat) : Int) := by omega
  subst ht
  generalize fnN Δ 59 = cf at c2 ⊢
  rcases hs with rfl | rfl <;> simp only [lcTurn, eL, runD, List.length_cons, List.length_nil, d_nil, d_cons, e_var, e_int, e_bl, e_non, e_str, e_fnc, e_bin, e_neg, e_inv, e_cmp, e_chn, e_bop, e_nt, e_ite, e_tup, e_tupS, evSt, e_lst, e_dct, e_dctT, e_popL, d_setd, d_asgL, e_gd, e_spl, e_ptn, e_ix, e_sl, e_bi, e_isi, e_rngL, e_rngT, e_call, e_call0, e_callV, e_dget, e_lc2, e_lc, d_asg, d_asgT, d_par, d_seti, d_app, d_ext, d_exp, d_ifs, d_fors, d_ret, d_retN, d_pass, d_brk, d_cnt, sms, smA, smO, smI, Sm.of, Sm.vt, smVar, rdVar, op1, op2, Re.bd, Re.of, Pl.at, slD?, truD, Rs.d, asgV, biV, evBs, plAll, evEs, evOp, evA, evTo, evO, evTs, List.cons_append, List.nil_append, List.append_nil, List.replicate, List.getElem?_cons_zero, List.getElem?_cons_succ, List.set_cons_zero, List.set_cons_succ, Option.bind_some, Option.map_some, b_add, b_sub, c_lt, c_le, c_gt, c_ge, f_abs, f_int, f_lenL, f_lenT, decide_true, decide_false, if_true, if_false, Bool.false_eq_true, ite_dec, rngI, rngV, lcV, noOwn, CT.ix, List.all_cons, List.all_nil, Bool.and_true, Sl.own, Bool.not_false, wipeR, backR, bindT, setShs, asgTV, asgLV, called, lend, lent, home, List.take_succ_cons, List.take_zero, List.nodup_nil, List.nodup_cons, List.not_mem_nil, not_false_eq_true, and_self, itemsD, seqOf, Option.toList, enuI, Nat.reduceSub, Nat.reduceAdd, Nat.reduceEqDiff, rsSl, st_z, st_s, sr_z, sr_s, stb_sh, stb_no, stb_ow, d_asgS, d_aug, e_gc, e_sls, slsV, e_callK, asgSV, augV, setShs, permL, List.filterMap_cons, List.filterMap_nil, List.map_cons, List.map_nil, List.drop_zero, List.drop_succ_cons, and_true, true_and, Option.map_none, Option.bind_none, h9, ng, la, c2, e1]
theorem law_true (ns : List Int) (hl : ns.length ≤ 63) : ∃ back, fnN Δ 60 "law" [.sh (.lst (ns.map D.int))] = .ok (.sh (.bl true)) back := by
  rw [df "law"]
  refine law_of (cf := fnN Δ 59) (body := bd1) (tl0 := [.no, .no, .no, .no, .no, .no, .no, .no]) law_eq rfl rfl (fun ρ => ∃ s2 s3 s4 s5 s6 s7 s8 s9, stb s2 ∧ stb s3 ∧ stb s4 ∧ stb s5 ∧ stb s6 ∧ stb s7 ∧ stb s8 ∧ stb s9 ∧ fre s9 ∧ ρ = [s2, s3, s4, s5, s6, s7, s8, s9])
    ⟨_, _, _, _, _, _, _, _, stb_no, stb_no, stb_no, stb_no, stb_no, stb_no, stb_no, stb_no, .inl rfl, rfl⟩ ?_
  rintro k s1 tl hk h1 ⟨s2, s3, s4, s5, s6, s7, s8, s9, h2, h3, h4, h5, h6, h7, h8, h9, f9, rfl⟩
  have h1 := h1.stb
  obtain ⟨pot, hp, c1⟩ : ∃ pot, PotI 0 pot ∧ fnN Δ 59 "_law_pot" [.sh (.lst (ns.map D.int)), .sh (.int k)] = .ok (.fr pot) [.sh (.lst (ns.map D.int)), .sh (.int k)] := potS 58 hk
  obtain ⟨w, i, pot', hw0, hi0, hi, hwi, hp', c2⟩ := shapeS (Δ := Δ) 57 (m := 8) hp (by omega) (by omega) (by omega)
  have hw : w ≤ 8 := shape_small hwi hi0
  have c3 : fnN Δ 59 "_law_numbers" [.sh (shp w i)] = .ok (.fr (.lst (natsD (List.range (2 ^ (w * i)))))) [.sh (shp w i)] := numbers_ok 58 hwi hw hi
  have m1 : 1 ≤ w * i := Nat.mul_pos hw0 hi0
  have N8 : 2 ^ (w * i) ≤ 2 ^ 8 := Nat.pow_le_pow_right (by decide) hwi
  have N1 : 2 ^ 1 ≤ 2 ^ (w * i) := Nat.pow_le_pow_right (by decide) m1
  obtain ⟨r, pot2, hr, hp2, c4⟩ := take_n 58 (m := w * i) hp' (by omega) (by omega) (by omega)
  have la := last_nat (n := 2 ^ (w * i)) (by omega)
  have ng : negD (.int 1) = some (.sh (.int (-1))) := rfl
  have b2 := b_mul (mul_kw (k := w) (w := i) (by omega) (by omega))
  have e2 : ((w : Nat) : Int) * ((i : Nat) : Int) = ((w * i : Nat) : Int) := by norm_cast
  have s1' := shl_one (k := r) (by omega)
  have pr : 2 ^ r < 2 ^ (w * i) := Nat.pow_lt_pow_right (by decide) hr
  have pr0 : 0 < 2 ^ r := Nat.pow_pos (by decide)
  let L0 : List D := [.int 1, .int ((2 ^ (w * i) - 1 : Nat) : Int), .int ((2 ^ r : Nat) : Int)]
  -- the drawn ones
  obtain ⟨ys, ρL, eL1, prL, pot3, hp3, rfl⟩ := lcW_inv (cf := fnN Δ 59) (tg := .nm 9) (it := itL) (e := eL) (xs := natsD (List.range 8)) (ρ := [.sh (.lst (ns.map D.int)), .sh (.int (k : Int)), .ow pot2, .sh (shp w i), .ow (.lst (natsD (List.range (2 ^ (w * i))))), .ow (.lst L0), s6, s7, s8, s9])
    (ρ1 := [.sh (.lst (ns.map D.int)), .sh (.int (k : Int)), .ow pot2, .sh (shp w i), .ow (.lst (natsD (List.range (2 ^ (w * i))))), .ow (.lst L0), s6, s7, s8, s9])
    (fun n ρ => ∃ pot, PotI (3 + n) pot ∧ ρ = [.sh (.lst (ns.map D.int)), .sh (.int (k : Int)), .ow pot, .sh (shp w i), .ow (.lst (natsD (List.range (2 ^ (w * i))))), .ow (.lst L0), s6, s7, s8, .no])
    (fun _ d => ∃ z : Nat, 1 ≤ z ∧ z < 2 ^ (w * i) ∧ d = .int ((z : Nat) : Int)) (by
      have r1 := rngOk_nat (n := 8) (by omega)
      have z := k_rng1 (n := 8) (ρ := [.sh (.lst (ns.map D.int)), .sh (.int (k : Int)), .ow pot2, .sh (shp w i), .ow (.lst (natsD (List.range (2 ^ (w * i))))), .ow (.lst L0), s6, s7, s8, s9]) r1
      have y : rngD 0 8 = natsD (List.range 8) := rngD_nats 8
      rw [y] at z
      simp only [itL, i_rng, runD, List.length_cons, List.length_nil, d_nil, d_cons, e_var, e_int, e_bl, e_non, e_str, e_fnc, e_bin, e_neg, e_inv, e_cmp, e_chn, e_bop, e_nt, e_ite, e_tup, e_tupS, evSt, e_lst, e_dct, e_dctT, e_popL, d_setd, d_asgL, e_gd, e_spl, e_ptn, e_ix, e_sl, e_bi, e_isi, e_rngL, e_rngT, e_call, e_call0, e_callV, e_dget, e_lc2, e_lc, d_asg, d_asgT, d_par, d_seti, d_app, d_ext, d_exp, d_ifs, d_fors, d_ret, d_retN, d_pass, d_brk, d_cnt, sms, smA, smO, smI, Sm.of, Sm.vt, smVar, rdVar, op1, op2, Re.bd, Re.of, Pl.at, slD?, truD, Rs.d, asgV, biV, evBs, plAll, evEs, evOp, evA, evTo, evO, evTs, List.cons_append, List.nil_append, List.append_nil, List.replicate, List.getElem?_cons_zero, List.getElem?_cons_succ, List.set_cons_zero, List.set_cons_succ, Option.bind_some, Option.map_some, b_add, b_sub, c_lt, c_le, c_gt, c_ge, f_abs, f_int, f_lenL, f_lenT, decide_true, decide_false, if_true, if_false, Bool.false_eq_true, ite_dec, rngI, rngV, lcV, noOwn, CT.ix, List.all_cons, List.all_nil, Bool.and_true, Sl.own, Bool.not_false, wipeR, backR, bindT, setShs, asgTV, asgLV, called, lend, lent, home, List.take_succ_cons, List.take_zero, List.nodup_nil, List.nodup_cons, List.not_mem_nil, not_false_eq_true, and_self, itemsD, seqOf, Option.toList, enuI, Nat.reduceSub, Nat.reduceAdd, Nat.reduceEqDiff, rsSl, st_z, st_s, sr_z, sr_s, stb_sh, stb_no, stb_ow, d_asgS, d_aug, e_gc, e_sls, slsV, e_callK, asgSV, augV, setShs, permL, List.filterMap_cons, List.filterMap_nil, List.map_cons, List.map_nil, List.drop_zero, List.drop_succ_cons, and_true, true_and, Option.map_none, Option.bind_none, z]) (by rcases f9 with rfl | ⟨d, rfl⟩ <;> rfl) ⟨pot2, hp2, by rcases f9 with rfl | ⟨d, rfl⟩ <;> rfl⟩ (by
      rintro n y ρ hy ⟨pot, hp, rfl⟩
      have hn : n < 8 := by
        have := (List.getElem?_eq_some_iff.mp hy).1
        simpa [natsD] using this
      obtain ⟨z, pot', z1, z2, hp', e⟩ := turnL (m := w * i) hp (by omega) m1 hwi (y := y) (a0 := .sh (.lst (ns.map D.int))) (a1 := .sh (.int (k : Int))) (a3 := .sh (shp w i)) (a5 := .ow (.lst L0)) (a6 := s6) (a7 := s7) (a8 := s8) stb_no rfl (.inr rfl)
      exact ⟨_, _, e, ⟨z, z1, z2, rfl⟩, pot', hp', rfl⟩) (by simp [natsD])
  have allL : ∀ y ∈ L0 ++ ys, ∃ z : Nat, 1 ≤ z ∧ z < 2 ^ (w * i) ∧ y = .int ((z : Nat) : Int) := fun y hy => by
    rcases List.mem_append.mp hy with h | h
    · have h : y = .int 1 ∨ y = .int ((2 ^ (w * i) - 1 : Nat) : Int) ∨ y = .int ((2 ^ r : Nat) : Int) := by simpa [L0] using h
      rcases h with rfl | rfl | rfl
      · exact ⟨1, by omega, by omega, rfl⟩
      · exact ⟨_, by omega, by omega, rfl⟩
      · exact ⟨_, by omega, by omega, rfl⟩
    · obtain ⟨j, hj⟩ := List.mem_iff_getElem?.mp h
      obtain ⟨_, _, z⟩ := pairedGetR prL hj
      exact z
  have ly : ys.length = 8 := by
    have := Paired.length prL
    simpa [natsD] using this.symm
  have b3 := b_addL (a := L0) (b := ys) (by rw [ly]; show 3 + 8 ≤ 1000; omega)
  obtain ⟨ρ6, e6, pot4, t6, t7, t8, hp4, g6, g7, g8, rfl⟩ := forW_inv (cf := fnN Δ 59) (tg := .nm 6) (body := bd6) (xs := L0 ++ ys) (ρ := [.sh (.lst (ns.map D.int)), .sh (.int (k : Int)), .ow pot3, .sh (shp w i), .ow (.lst (natsD (List.range (2 ^ (w * i))))), .sh (.lst (L0 ++ ys)), s6, s7, s8, s9])
    (fun n ρ => ∃ pot s6 s7 s8, PotI (11 + n) pot ∧ stb s6 ∧ stb s7 ∧ stb s8 ∧ ρ = [.sh (.lst (ns.map D.int)), .sh (.int (k : Int)), .ow pot, .sh (shp w i), .ow (.lst (natsD (List.range (2 ^ (w * i))))), .sh (.lst (L0 ++ ys)), s6, s7, s8, s9]) ⟨pot3, s6, s7, s8, hp3.mono (by simp [natsD]), h6, h7, h8, rfl⟩ (by
      rintro n y ρ hy ⟨pot, s6, s7, s8, hp, h6, h7, h8, rfl⟩
      have hn : n < 11 := by
        have := (List.getElem?_eq_some_iff.mp hy).1
        rw [List.length_append, ly] at this
        exact this
      obtain ⟨x, x1, x2, rfl⟩ := allL y (List.mem_of_getElem? hy)
      obtain ⟨ρ', e, pot', s6', s7', s8', q1, q2, q3, q4, rfl⟩ := turn6 hw0 hw hi x2 hwi (by omega) hp (by omega) (a0 := .sh (.lst (ns.map D.int))) (a1 := .sh (.int (k : Int))) (a4 := .ow (.lst (natsD (List.range (2 ^ (w * i)))))) (a5 := .sh (.lst (L0 ++ ys))) (a9 := s9) h6 h7 h8
      exact ⟨_, e, pot', s6', s7', s8', q1, q2, q3, q4, rfl⟩)
  have c2' : fnN Δ 59 "_law_shape" [.io pot, .sh (.int 8)] = .ok (.sh (shp w i)) [.io pot', .sh (.int 8)] := c2
  refine ⟨[.ow pot4, .sh (shp w i), .ow (.lst (natsD (List.range (2 ^ (w * i))))), .sh (.lst (L0 ++ ys)), t6, t7, t8, s9], ⟨_, _, _, _, _, _, _, _, stb_ow, stb_sh, stb_ow, stb_sh, g6, g7, g8, h9, f9, rfl⟩, ?_⟩
  have z3 : 0 + 1 + 1 + 1 ≤ sizeL := by decide
  have back9 : backR [.sh (.lst (ns.map D.int)), .sh (.int (k : Int)), .ow pot2, .sh (shp w i), .ow (.lst (natsD (List.range (2 ^ (w * i))))), .ow (.lst L0), s6, s7, s8, s9] [.sh (.lst (ns.map D.int)), .sh (.int (k : Int)), .ow pot3, .sh (shp w i), .ow (.lst (natsD (List.range (2 ^ (w * i))))), .ow (.lst L0), s6, s7, s8, .no] [9] = [.sh (.lst (ns.map D.int)), .sh (.int (k : Int)), .ow pot3, .sh (shp w i), .ow (.lst (natsD (List.range (2 ^ (w * i))))), .ow (.lst L0), s6, s7, s8, s9] := rfl
  have eL1 : lcW (fnN Δ 59) (.nm 9) itL .nil eL [.sh (.lst (ns.map D.int)), .sh (.int (k : Int)), .ow pot2, .sh (shp w i), .ow (.lst (natsD (List.range (2 ^ (w * i))))), .ow (.lst L0), s6, s7, s8, s9] = .ok (.fr (.lst ys)) [.sh (.lst (ns.map D.int)), .sh (.int (k : Int)), .ow pot3, .sh (shp w i), .ow (.lst (natsD (List.range (2 ^ (w * i))))), .ow (.lst L0), s6, s7, s8, s9] := eL1.trans (by rw [show CT.ix (.nm 9) = [9] from rfl, back9])
  generalize fnN Δ 59 = cf at c1 c2' c3 c4 eL1 e6 ⊢
  have a1 : ∀ (s5' : Sl), stb s5' → ss cf (.asg 5 (.lst (.cons (.int 1) (.cons (.ix (.var 4) (.neg (.int 1))) (.cons (.bin .LShift (.int 1) (.call "_law_take" (.io 2 (.ex (.bin .Mult (.ix (.var 3) (.int 0)) (.ix (.var 3) (.int 1))) .nil)))) .nil)))))
      [.sh (.lst (ns.map D.int)), .sh (.int (k : Int)), .ow pot', .sh (shp w i), .ow (.lst (natsD (List.range (2 ^ (w * i))))), s5', s6, s7, s8, s9] = .ok .nx [.sh (.lst (ns.map D.int)), .sh (.int (k : Int)), .ow pot2, .sh (shp w i), .ow (.lst (natsD (List.range (2 ^ (w * i))))), .ow (.lst L0), s6, s7, s8, s9] := fun s5' h5 => by
    simp only [runD, List.length_cons, List.length_nil, d_nil, d_cons, e_var, e_int, e_bl, e_non, e_str, e_fnc, e_bin, e_neg, e_inv, e_cmp, e_chn, e_bop, e_nt, e_ite, e_tup, e_tupS, evSt, e_lst, e_dct, e_dctT, e_popL, d_setd, d_asgL, e_gd, e_spl, e_ptn, e_ix, e_sl, e_bi, e_isi, e_rngL, e_rngT, e_call, e_call0, e_callV, e_dget, e_lc2, e_lc, d_asg, d_asgT, d_par, d_seti, d_app, d_ext, d_exp, d_ifs, d_fors, d_ret, d_retN, d_pass, d_brk, d_cnt, sms, smA, smO, smI, Sm.of, Sm.vt, smVar, rdVar, op1, op2, Re.bd, Re.of, Pl.at, slD?, truD, Rs.d, asgV, biV, evBs, plAll, evEs, evOp, evA, evTo, evO, evTs, List.cons_append, List.nil_append, List.append_nil, List.replicate, List.getElem?_cons_zero, List.getElem?_cons_succ, List.set_cons_zero, List.set_cons_succ, Option.bind_some, Option.map_some, b_add, b_sub, c_lt, c_le, c_gt, c_ge, f_abs, f_int, f_lenL, f_lenT, decide_true, decide_false, if_true, if_false, Bool.false_eq_true, ite_dec, rngI, rngV, lcV, noOwn, CT.ix, List.all_cons, List.all_nil, Bool.and_true, Sl.own, Bool.not_false, wipeR, backR, bindT, setShs, asgTV, asgLV, called, lend, lent, home, List.take_succ_cons, List.take_zero, List.nodup_nil, List.nodup_cons, List.not_mem_nil, not_false_eq_true, and_self, itemsD, seqOf, Option.toList, enuI, Nat.reduceSub, Nat.reduceAdd, Nat.reduceEqDiff, rsSl, st_z, st_s, sr_z, sr_s, stb_sh, stb_no, stb_ow, d_asgS, d_aug, e_gc, e_sls, slsV, e_callK, asgSV, augV, setShs, permL, List.filterMap_cons, List.filterMap_nil, List.map_cons, List.map_nil, List.drop_zero, List.drop_succ_cons, and_true, true_and, Option.map_none, Option.bind_none, h5, ng, la, xt0, xt1, b2, e2, c4, b_shl s1', toNat_nat, one_pow, z3, L0]
  have a2 : ss cf (.asg 5 (.bin .Add (.var 5) (.lc (.nm 9) itL .nil eL))) [.sh (.lst (ns.map D.int)), .sh (.int (k : Int)), .ow pot2, .sh (shp w i), .ow (.lst (natsD (List.range (2 ^ (w * i))))), .ow (.lst L0), s6, s7, s8, s9] = .ok .nx [.sh (.lst (ns.map D.int)), .sh (.int (k : Int)), .ow pot3, .sh (shp w i), .ow (.lst (natsD (List.range (2 ^ (w * i))))), .ow (.lst (L0 ++ ys)), s6, s7, s8, s9] := by
    simp only [runD, List.length_cons, List.length_nil, d_nil, d_cons, e_var, e_int, e_bl, e_non, e_str, e_fnc, e_bin, e_neg, e_inv, e_cmp, e_chn, e_bop, e_nt, e_ite, e_tup, e_tupS, evSt, e_lst, e_dct, e_dctT, e_popL, d_setd, d_asgL, e_gd, e_spl, e_ptn, e_ix, e_sl, e_bi, e_isi, e_rngL, e_rngT, e_call, e_call0, e_callV, e_dget, e_lc2, e_lc, d_asg, d_asgT, d_par, d_seti, d_app, d_ext, d_exp, d_ifs, d_fors, d_ret, d_retN, d_pass, d_brk, d_cnt, sms, smA, smO, smI, Sm.of, Sm.vt, smVar, rdVar, op1, op2, Re.bd, Re.of, Pl.at, slD?, truD, Rs.d, asgV, biV, evBs, plAll, evEs, evOp, evA, evTo, evO, evTs, List.cons_append, List.nil_append, List.append_nil, List.replicate, List.getElem?_cons_zero, List.getElem?_cons_succ, List.set_cons_zero, List.set_cons_succ, Option.bind_some, Option.map_some, b_add, b_sub, c_lt, c_le, c_gt, c_ge, f_abs, f_int, f_lenL, f_lenT, decide_true, decide_false, if_true, if_false, Bool.false_eq_true, ite_dec, rngI, rngV, lcV, noOwn, CT.ix, List.all_cons, List.all_nil, Bool.and_true, Sl.own, Bool.not_false, wipeR, backR, bindT, setShs, asgTV, asgLV, called, lend, lent, home, List.take_succ_cons, List.take_zero, List.nodup_nil, List.nodup_cons, List.not_mem_nil, not_false_eq_true, and_self, itemsD, seqOf, Option.toList, enuI, Nat.reduceSub, Nat.reduceAdd, Nat.reduceEqDiff, rsSl, st_z, st_s, sr_z, sr_s, stb_sh, stb_no, stb_ow, d_asgS, d_aug, e_gc, e_sls, slsV, e_callK, asgSV, augV, setShs, permL, List.filterMap_cons, List.filterMap_nil, List.map_cons, List.map_nil, List.drop_zero, List.drop_succ_cons, and_true, true_and, Option.map_none, Option.bind_none, eL1, b3]
  have t0 : forall ρ, ρ = [.sh (.lst (ns.map D.int)), s1, s2, s3, s4, s5, s6, s7, s8, s9] → Wr.forTurn (.nm 1) (sss cf bd1) (.int (k : Int)) ρ = .ok .nx [.sh (.lst (ns.map D.int)), .sh (.int (k : Int)), .ow pot4, .sh (shp w i), .ow (.lst (natsD (List.range (2 ^ (w * i))))), .sh (.lst (L0 ++ ys)), t6, t7, t8, s9] := fun ρ hρ => by
    subst hρ
    have st1 : ss cf (.asg 2 (.call "_law_pot" (.ex (.var 0) (.ex (.var 1) .nil)))) [.sh (.lst (ns.map D.int)), .sh (.int (k : Int)), s2, s3, s4, s5, s6, s7, s8, s9] = .ok .nx [.sh (.lst (ns.map D.int)), .sh (.int (k : Int)), .ow pot, s3, s4, s5, s6, s7, s8, s9] := by simp only [runD, List.length_cons, List.length_nil, d_nil, d_cons, e_var, e_int, e_bl, e_non, e_str, e_fnc, e_bin, e_neg, e_inv, e_cmp, e_chn, e_bop, e_nt, e_ite, e_tup, e_tupS, evSt, e_lst, e_dct, e_dctT, e_popL, d_setd, d_asgL, e_gd, e_spl, e_ptn, e_ix, e_sl, e_bi, e_isi, e_rngL, e_rngT, e_call, e_call0, e_callV, e_dget, e_lc2, e_lc, d_asg, d_asgT, d_par, d_seti, d_app, d_ext, d_exp, d_ifs, d_fors, d_ret, d_retN, d_pass, d_brk, d_cnt, sms, smA, smO, smI, Sm.of, Sm.vt, smVar, rdVar, op1, op2, Re.bd, Re.of, Pl.at, slD?, truD, Rs.d, asgV, biV, evBs, plAll, evEs, evOp, evA, evTo, evO, evTs, List.cons_append, List.nil_append, List.append_nil, List.replicate, List.getElem?_cons_zero, List.getElem?_cons_succ, List.set_cons_zero, List.set_cons_succ, Option.bind_some, Option.map_some, b_add, b_sub, c_lt, c_le, c_gt, c_ge, f_abs, f_int, f_lenL, f_lenT, decide_true, decide_false, if_true, if_false, Bool.false_eq_true, ite_dec, rngI, rngV, lcV, noOwn, CT.ix, List.all_cons, List.all_nil, Bool.and_true, Sl.own, Bool.not_false, wipeR, backR, bindT, setShs, asgTV, asgLV, called, lend, lent, home, List.take_succ_cons, List.take_zero, List.nodup_nil, List.nodup_cons, List.not_mem_nil, not_false_eq_true, and_self, itemsD, seqOf, Option.toList, enuI, Nat.reduceSub, Nat.reduceAdd, Nat.reduceEqDiff, rsSl, st_z, st_s, sr_z, sr_s, stb_sh, stb_no, stb_ow, d_asgS, d_aug, e_gc, e_sls, slsV, e_callK, asgSV, augV, setShs, permL, List.filterMap_cons, List.filterMap_nil, List.map_cons, List.map_nil, List.drop_zero, List.drop_succ_cons, and_true, true_and, Option.map_none, Option.bind_none, h2, c1]
    have st2 : ss cf (.asg 3 (.call "_law_shape" (.io 2 (.ex (.int 8) .nil)))) [.sh (.lst (ns.map D.int)), .sh (.int (k : Int)), .ow pot, s3, s4, s5, s6, s7, s8, s9] = .ok .nx [.sh (.lst (ns.map D.int)), .sh (.int (k : Int)), .ow pot', .sh (shp w i), s4, s5, s6, s7, s8, s9] := by simp only [runD, List.length_cons, List.length_nil, d_nil, d_cons, e_var, e_int, e_bl, e_non, e_str, e_fnc, e_bin, e_neg, e_inv, e_cmp, e_chn, e_bop, e_nt, e_ite, e_tup, e_tupS, evSt, e_lst, e_dct, e_dctT, e_popL, d_setd, d_asgL, e_gd, e_spl, e_ptn, e_ix, e_sl, e_bi, e_isi, e_rngL, e_rngT, e_call, e_call0, e_callV, e_dget, e_lc2, e_lc, d_asg, d_asgT, d_par, d_seti, d_app, d_ext, d_exp, d_ifs, d_fors, d_ret, d_retN, d_pass, d_brk, d_cnt, sms, smA, smO, smI, Sm.of, Sm.vt, smVar, rdVar, op1, op2, Re.bd, Re.of, Pl.at, slD?, truD, Rs.d, asgV, biV, evBs, plAll, evEs, evOp, evA, evTo, evO, evTs, List.cons_append, List.nil_append, List.append_nil, List.replicate, List.getElem?_cons_zero, List.getElem?_cons_succ, List.set_cons_zero, List.set_cons_succ, Option.bind_some, Option.map_some, b_add, b_sub, c_lt, c_le, c_gt, c_ge, f_abs, f_int, f_lenL, f_lenT, decide_true, decide_false, if_true, if_false, Bool.false_eq_true, ite_dec, rngI, rngV, lcV, noOwn, CT.ix, List.all_cons, List.all_nil, Bool.and_true, Sl.own, Bool.not_false, wipeR, backR, bindT, setShs, asgTV, asgLV, called, lend, lent, home, List.take_succ_cons, List.take_zero, List.nodup_nil, List.nodup_cons, List.not_mem_nil, not_false_eq_true, and_self, itemsD, seqOf, Option.toList, enuI, Nat.reduceSub, Nat.reduceAdd, Nat.reduceEqDiff, rsSl, st_z, st_s, sr_z, sr_s, stb_sh, stb_no, stb_ow, d_asgS, d_aug, e_gc, e_sls, slsV, e_callK, asgSV, augV, setShs, permL, List.filterMap_cons, List.filterMap_nil, List.map_cons, List.map_nil, List.drop_zero, List.drop_succ_cons, and_true, true_and, Option.map_none, Option.bind_none, h3, c2']
    have st3 : ss cf (.asg 4 (.call "_law_numbers" (.ex (.var 3) .nil))) [.sh (.lst (ns.map D.int)), .sh (.int (k : Int)), .ow pot', .sh (shp w i), s4, s5, s6, s7, s8, s9] = .ok .nx [.sh (.lst (ns.map D.int)), .sh (.int (k : Int)), .ow pot', .sh (shp w i), .ow (.lst (natsD (List.range (2 ^ (w * i))))), s5, s6, s7, s8, s9] := by simp only [runD, List.length_cons, List.length_nil, d_nil, d_cons, e_var, e_int, e_bl, e_non, e_str, e_fnc, e_bin, e_neg, e_inv, e_cmp, e_chn, e_bop, e_nt, e_ite, e_tup, e_tupS, evSt, e_lst, e_dct, e_dctT, e_popL, d_setd, d_asgL, e_gd, e_spl, e_ptn, e_ix, e_sl, e_bi, e_isi, e_rngL, e_rngT, e_call, e_call0, e_callV, e_dget, e_lc2, e_lc, d_asg, d_asgT, d_par, d_seti, d_app, d_ext, d_exp, d_ifs, d_fors, d_ret, d_retN, d_pass, d_brk, d_cnt, sms, smA, smO, smI, Sm.of, Sm.vt, smVar, rdVar, op1, op2, Re.bd, Re.of, Pl.at, slD?, truD, Rs.d, asgV, biV, evBs, plAll, evEs, evOp, evA, evTo, evO, evTs, List.cons_append, List.nil_append, List.append_nil, List.replicate, List.getElem?_cons_zero, List.getElem?_cons_succ, List.set_cons_zero, List.set_cons_succ, Option.bind_some, Option.map_some, b_add, b_sub, c_lt, c_le, c_gt, c_ge, f_abs, f_int, f_lenL, f_lenT, decide_true, decide_false, if_true, if_false, Bool.false_eq_true, ite_dec, rngI, rngV, lcV, noOwn, CT.ix, List.all_cons, List.all_nil, Bool.and_true, Sl.own, Bool.not_false, wipeR, backR, bindT, setShs, asgTV, asgLV, called, lend, lent, home, List.take_succ_cons, List.take_zero, List.nodup_nil, List.nodup_cons, List.not_mem_nil, not_false_eq_true, and_self, itemsD, seqOf, Option.toList, enuI, Nat.reduceSub, Nat.reduceAdd, Nat.reduceEqDiff, rsSl, st_z, st_s, sr_z, sr_s, stb_sh, stb_no, stb_ow, d_asgS, d_aug, e_gc, e_sls, slsV, e_callK, asgSV, augV, setShs, permL, List.filterMap_cons, List.filterMap_nil, List.map_cons, List.map_nil, List.drop_zero, List.drop_succ_cons, and_true, true_and, Option.map_none, Option.bind_none, h4, c3]
    have b0 : bindT (.nm 1) (.int (k : Int)) [.sh (.lst (ns.map D.int)), s1, s2, s3, s4, s5, s6, s7, s8, s9] = some [.sh (.lst (ns.map D.int)), .sh (.int (k : Int)), s2, s3, s4, s5, s6, s7, s8, s9] := by simp only [runD, List.length_cons, List.length_nil, d_nil, d_cons, e_var, e_int, e_bl, e_non, e_str, e_fnc, e_bin, e_neg, e_inv, e_cmp, e_chn, e_bop, e_nt, e_ite, e_tup, e_tupS, evSt, e_lst, e_dct, e_dctT, e_popL, d_setd, d_asgL, e_gd, e_spl, e_ptn, e_ix, e_sl, e_bi, e_isi, e_rngL, e_rngT, e_call, e_call0, e_callV, e_dget, e_lc2, e_lc, d_asg, d_asgT, d_par, d_seti, d_app, d_ext, d_exp, d_ifs, d_fors, d_ret, d_retN, d_pass, d_brk, d_cnt, sms, smA, smO, smI, Sm.of, Sm.vt, smVar, rdVar, op1, op2, Re.bd, Re.of, Pl.at, slD?, truD, Rs.d, asgV, biV, evBs, plAll, evEs, evOp, evA, evTo, evO, evTs, List.cons_append, List.nil_append, List.append_nil, List.replicate, List.getElem?_cons_zero, List.getElem?_cons_succ, List.set_cons_zero, List.set_cons_succ, Option.bind_some, Option.map_some, b_add, b_sub, c_lt, c_le, c_gt, c_ge, f_abs, f_int, f_lenL, f_lenT, decide_true, decide_false, if_true, if_false, Bool.false_eq_true, ite_dec, rngI, rngV, lcV, noOwn, CT.ix, List.all_cons, List.all_nil, Bool.and_true, Sl.own, Bool.not_false, wipeR, backR, bindT, setShs, asgTV, asgLV, called, lend, lent, home, List.take_succ_cons, List.take_zero, List.nodup_nil, List.nodup_cons, List.not_mem_nil, not_false_eq_true, and_self, itemsD, seqOf, Option.toList, enuI, Nat.reduceSub, Nat.reduceAdd, Nat.reduceEqDiff, rsSl, st_z, st_s, sr_z, sr_s, stb_sh, stb_no, stb_ow, d_asgS, d_aug, e_gc, e_sls, slsV, e_callK, asgSV, augV, setShs, permL, List.filterMap_cons, List.filterMap_nil, List.map_cons, List.map_nil, List.drop_zero, List.drop_succ_cons, and_true, true_and, Option.map_none, Option.bind_none, h1]
    unfold Wr.forTurn
    rw [b0]
    show sss cf bd1 _ = _
    unfold bd1
    rw [sss_nx st1, sss_nx st2, sss_nx st3, sss_nx (a1 s5 h5), sss_nx a2]
    simp only [i_ex, runD, List.length_cons, List.length_nil, d_nil, d_cons, e_var, e_int, e_bl, e_non, e_str, e_fnc, e_bin, e_neg, e_inv, e_cmp, e_chn, e_bop, e_nt, e_ite, e_tup, e_tupS, evSt, e_lst, e_dct, e_dctT, e_popL, d_setd, d_asgL, e_gd, e_spl, e_ptn, e_ix, e_sl, e_bi, e_isi, e_rngL, e_rngT, e_call, e_call0, e_callV, e_dget, e_lc2, e_lc, d_asg, d_asgT, d_par, d_seti, d_app, d_ext, d_exp, d_ifs, d_fors, d_ret, d_retN, d_pass, d_brk, d_cnt, sms, smA, smO, smI, Sm.of, Sm.vt, smVar, rdVar, op1, op2, Re.bd, Re.of, Pl.at, slD?, truD, Rs.d, asgV, biV, evBs, plAll, evEs, evOp, evA, evTo, evO, evTs, List.cons_append, List.nil_append, List.append_nil, List.replicate, List.getElem?_cons_zero, List.getElem?_cons_succ, List.set_cons_zero, List.set_cons_succ, Option.bind_some, Option.map_some, b_add, b_sub, c_lt, c_le, c_gt, c_ge, f_abs, f_int, f_lenL, f_lenT, decide_true, decide_false, if_true, if_false, Bool.false_eq_true, ite_dec, rngI, rngV, lcV, noOwn, CT.ix, List.all_cons, List.all_nil, Bool.and_true, Sl.own, Bool.not_false, wipeR, backR, bindT, setShs, asgTV, asgLV, called, lend, lent, home, List.take_succ_cons, List.take_zero, List.nodup_nil, List.nodup_cons, List.not_mem_nil, not_false_eq_true, and_self, itemsD, seqOf, Option.toList, enuI, Nat.reduceSub, Nat.reduceAdd, Nat.reduceEqDiff, rsSl, st_z, st_s, sr_z, sr_s, stb_sh, stb_no, stb_ow, d_asgS, d_aug, e_gc, e_sls, slsV, e_callK, asgSV, augV, setShs, permL, List.filterMap_cons, List.filterMap_nil, List.map_cons, List.map_nil, List.drop_zero, List.drop_succ_cons, and_true, true_and, Option.map_none, Option.bind_none, e6]
  exact t0 _ rfl
end Lw_k44
namespace Lw_k44
open PySem PySem.Spec L2 Wr Wr.Cd
open PyProof.Rows hiding St
theorem dn_some {x : Str} (h : dn x = true) : ∃ c, Δ x = some c := Option.isSome_iff_exists.mp h
theorem all_at {g : Gm} (h_is_integer : ∃ f fd, DefK g "is_integer" (topS 8) f fd) (h_input_bits : ∃ f fd, DefK g "input_bits" (topS 9) f fd) (h_bits_of : ∃ f fd, DefK g "bits_of" (topS 11) f fd) (h_places_of : ∃ f fd, DefK g "places_of" (topS 12) f fd) (h_weight : ∃ f fd, DefK g "weight" (topS 13) f fd) (h_least_place : ∃ f fd, DefK g "least_place" (topS 15) f fd) (h_bits_at : ∃ f fd, DefK g "bits_at" (topS 16) f fd) (h_merged : ∃ f fd, DefK g "merged" (topS 17) f fd) (h_tree_for : ∃ f fd, DefK g "tree_for" (topS 18) f fd) (h_is_input_bit : ∃ f fd, DefK g "is_input_bit" (topS 19) f fd) (h_parts_of : ∃ f fd, DefK g "parts_of" (topS 20) f fd) (h_tree_bits : ∃ f fd, DefK g "tree_bits" (topS 21) f fd) (h_shows_tree : ∃ f fd, DefK g "shows_tree" (topS 22) f fd) (h__law_pot : ∃ f fd, DefK g "_law_pot" (topS 24) f fd) (h__law_take : ∃ f fd, DefK g "_law_take" (topS 25) f fd) (h__law_shape : ∃ f fd, DefK g "_law_shape" (topS 26) f fd) (h__law_numbers : ∃ f fd, DefK g "_law_numbers" (topS 27) f fd) (h__law_places : ∃ f fd, DefK g "_law_places" (topS 28) f fd) (h__law_is_whole : ∃ f fd, DefK g "_law_is_whole" (topS 29) f fd) (h__law_burden : ∃ f fd, DefK g "_law_burden" (topS 30) f fd) (h__law_low : ∃ f fd, DefK g "_law_low" (topS 31) f fd) (h__law_tree_seen : ∃ f fd, DefK g "_law_tree_seen" (topS 32) f fd) (h__law_is_tree : ∃ f fd, DefK g "_law_is_tree" (topS 33) f fd) (h__law_put_together : ∃ f fd, DefK g "_law_put_together" (topS 34) f fd) (h__law_low_told : ∃ f fd, DefK g "_law_low_told" (topS 35) f fd) (h__law_term_right : ∃ f fd, DefK g "_law_term_right" (topS 36) f fd) (h_law : ∃ f fd, DefK g "law" (topS 37) f fd) : ∀ x c, dn x = true → Δ x = some c → DefAt g mi x c := by
  intro x c hx h
  by_cases e0 : x = "is_integer"
  · subst e0
    obtain rfl : c_is_integer = c := Option.some.inj (show some c_is_integer = some c from h)
    obtain ⟨f, fd, T⟩ := h_is_integer
    exact ⟨_, _, _, f, fd, s_is_integer, T⟩
  by_cases e1 : x = "input_bits"
  · subst e1
    obtain rfl : c_input_bits = c := Option.some.inj (show some c_input_bits = some c from h)
    obtain ⟨f, fd, T⟩ := h_input_bits
    exact ⟨_, _, _, f, fd, s_input_bits, T⟩
  by_cases e2 : x = "bits_of"
  · subst e2
    obtain rfl : c_bits_of = c := Option.some.inj (show some c_bits_of = some c from h)
    obtain ⟨f, fd, T⟩ := h_bits_of
    exact ⟨_, _, _, f, fd, s_bits_of, T⟩
  by_cases e3 : x = "places_of"
  · subst e3
    obtain rfl : c_places_of = c := Option.some.inj (show some c_places_of = some c from h)
    obtain ⟨f, fd, T⟩ := h_places_of
    exact ⟨_, _, _, f, fd, s_places_of, T⟩
  by_cases e4 : x = "weight"
  · subst e4
    obtain rfl : c_weight = c := Option.some.inj (show some c_weight = some c from h)
    obtain ⟨f, fd, T⟩ := h_weight
    exact ⟨_, _, _, f, fd, s_weight, T⟩
  by_cases e5 : x = "least_place"
  · subst e5
    obtain rfl : c_least_place = c := Option.some.inj (show some c_least_place = some c from h)
    obtain ⟨f, fd, T⟩ := h_least_place
    exact ⟨_, _, _, f, fd, s_least_place, T⟩
  by_cases e6 : x = "bits_at"
  · subst e6
    obtain rfl : c_bits_at = c := Option.some.inj (show some c_bits_at = some c from h)
    obtain ⟨f, fd, T⟩ := h_bits_at
    exact ⟨_, _, _, f, fd, s_bits_at, T⟩
  by_cases e7 : x = "merged"
  · subst e7
    obtain rfl : c_merged = c := Option.some.inj (show some c_merged = some c from h)
    obtain ⟨f, fd, T⟩ := h_merged
    exact ⟨_, _, _, f, fd, s_merged, T⟩
  by_cases e8 : x = "tree_for"
  · subst e8
    obtain rfl : c_tree_for = c := Option.some.inj (show some c_tree_for = some c from h)
    obtain ⟨f, fd, T⟩ := h_tree_for
    exact ⟨_, _, _, f, fd, s_tree_for, T⟩
  by_cases e9 : x = "is_input_bit"
  · subst e9
    obtain rfl : c_is_input_bit = c := Option.some.inj (show some c_is_input_bit = some c from h)
    obtain ⟨f, fd, T⟩ := h_is_input_bit
    exact ⟨_, _, _, f, fd, s_is_input_bit, T⟩
  by_cases e10 : x = "parts_of"
  · subst e10
    obtain rfl : c_parts_of = c := Option.some.inj (show some c_parts_of = some c from h)
    obtain ⟨f, fd, T⟩ := h_parts_of
    exact ⟨_, _, _, f, fd, s_parts_of, T⟩
  by_cases e11 : x = "tree_bits"
  · subst e11
    obtain rfl : c_tree_bits = c := Option.some.inj (show some c_tree_bits = some c from h)
    obtain ⟨f, fd, T⟩ := h_tree_bits
    exact ⟨_, _, _, f, fd, s_tree_bits, T⟩
  by_cases e12 : x = "shows_tree"
  · subst e12
    obtain rfl : c_shows_tree = c := Option.some.inj (show some c_shows_tree = some c from h)
    obtain ⟨f, fd, T⟩ := h_shows_tree
    exact ⟨_, _, _, f, fd, s_shows_tree, T⟩
  by_cases e13 : x = "_law_pot"
  · subst e13
    obtain rfl : c__law_pot = c := Option.some.inj (show some c__law_pot = some c from h)
    obtain ⟨f, fd, T⟩ := h__law_pot
    exact ⟨_, _, _, f, fd, s__law_pot, T⟩
  by_cases e14 : x = "_law_take"
  · subst e14
    obtain rfl : c__law_take = c := Option.some.inj (show some c__law_take = some c from h)
    obtain ⟨f, fd, T⟩ := h__law_take
    exact ⟨_, _, _, f, fd, s__law_take, T⟩
  by_cases e15 : x = "_law_shape"
  · subst e15
    obtain rfl : c__law_shape = c := Option.some.inj (show some c__law_shape = some c from h)
    obtain ⟨f, fd, T⟩ := h__law_shape
    exact ⟨_, _, _, f, fd, s__law_shape, T⟩
  by_cases e16 : x = "_law_numbers"
  · subst e16
    obtain rfl : c__law_numbers = c := Option.some.inj (show some c__law_numbers = some c from h)
    obtain ⟨f, fd, T⟩ := h__law_numbers
    exact ⟨_, _, _, f, fd, s__law_numbers, T⟩
  by_cases e17 : x = "_law_places"
  · subst e17
    obtain rfl : c__law_places = c := Option.some.inj (show some c__law_places = some c from h)
    obtain ⟨f, fd, T⟩ := h__law_places
    exact ⟨_, _, _, f, fd, s__law_places, T⟩
  by_cases e18 : x = "_law_is_whole"
  · subst e18
    obtain rfl : c__law_is_whole = c := Option.some.inj (show some c__law_is_whole = some c from h)
    obtain ⟨f, fd, T⟩ := h__law_is_whole
    exact ⟨_, _, _, f, fd, s__law_is_whole, T⟩
  by_cases e19 : x = "_law_burden"
  · subst e19
    obtain rfl : c__law_burden = c := Option.some.inj (show some c__law_burden = some c from h)
    obtain ⟨f, fd, T⟩ := h__law_burden
    exact ⟨_, _, _, f, fd, s__law_burden, T⟩
  by_cases e20 : x = "_law_low"
  · subst e20
    obtain rfl : c__law_low = c := Option.some.inj (show some c__law_low = some c from h)
    obtain ⟨f, fd, T⟩ := h__law_low
    exact ⟨_, _, _, f, fd, s__law_low, T⟩
  by_cases e21 : x = "_law_tree_seen"
  · subst e21
    obtain rfl : c__law_tree_seen = c := Option.some.inj (show some c__law_tree_seen = some c from h)
    obtain ⟨f, fd, T⟩ := h__law_tree_seen
    exact ⟨_, _, _, f, fd, s__law_tree_seen, T⟩
  by_cases e22 : x = "_law_is_tree"
  · subst e22
    obtain rfl : c__law_is_tree = c := Option.some.inj (show some c__law_is_tree = some c from h)
    obtain ⟨f, fd, T⟩ := h__law_is_tree
    exact ⟨_, _, _, f, fd, s__law_is_tree, T⟩
  by_cases e23 : x = "_law_put_together"
  · subst e23
    obtain rfl : c__law_put_together = c := Option.some.inj (show some c__law_put_together = some c from h)
    obtain ⟨f, fd, T⟩ := h__law_put_together
    exact ⟨_, _, _, f, fd, s__law_put_together, T⟩
  by_cases e24 : x = "_law_low_told"
  · subst e24
    obtain rfl : c__law_low_told = c := Option.some.inj (show some c__law_low_told = some c from h)
    obtain ⟨f, fd, T⟩ := h__law_low_told
    exact ⟨_, _, _, f, fd, s__law_low_told, T⟩
  by_cases e25 : x = "_law_term_right"
  · subst e25
    obtain rfl : c__law_term_right = c := Option.some.inj (show some c__law_term_right = some c from h)
    obtain ⟨f, fd, T⟩ := h__law_term_right
    exact ⟨_, _, _, f, fd, s__law_term_right, T⟩
  by_cases e26 : x = "law"
  · subst e26
    obtain rfl : c_law = c := Option.some.inj (show some c_law = some c from h)
    obtain ⟨f, fd, T⟩ := h_law
    exact ⟨_, _, _, f, fd, s_law, T⟩
  unfold Δ at h
  rw [if_neg e0, if_neg e1, if_neg e2, if_neg e3, if_neg e4, if_neg e5, if_neg e6, if_neg e7, if_neg e8, if_neg e9, if_neg e10, if_neg e11, if_neg e12, if_neg e13, if_neg e14, if_neg e15, if_neg e16, if_neg e17, if_neg e18, if_neg e19, if_neg e20, if_neg e21, if_neg e22, if_neg e23, if_neg e24, if_neg e25, if_neg e26] at h
  cases h
theorem bn_none {g : Gm} (z_abs : g.mg "abs" = none) (z_bool : g.mg "bool" = none) (z_int : g.mg "int" = none) (z_isinstance : g.mg "isinstance" = none) (z_len : g.mg "len" = none) (z_list : g.mg "list" = none) (z_max : g.mg "max" = none) (z_min : g.mg "min" = none) (z_range : g.mg "range" = none) (z_repr : g.mg "repr" = none) (z_set : g.mg "set" = none) (z_str : g.mg "str" = none) (z_sum : g.mg "sum" = none) (z_tuple : g.mg "tuple" = none) : ∀ x, bn x = true → g.mg x = none := by
  intro x h
  simp only [bn, Bool.or_eq_true, decide_eq_true_eq] at h
  rcases h with (((((((((((((rfl | rfl) | rfl) | rfl) | rfl) | rfl) | rfl) | rfl) | rfl) | rfl) | rfl) | rfl) | rfl) | rfl)
  · exact z_abs
  · exact z_bool
  · exact z_int
  · exact z_isinstance
  · exact z_len
  · exact z_list
  · exact z_max
  · exact z_min
  · exact z_range
  · exact z_repr
  · exact z_set
  · exact z_str
  · exact z_sum
  · exact z_tuple
set_option maxHeartbeats 0 in
theorem all_mk {P : Program} {w : World} {K : PySem.W.Frag} {h : Heap} {mg : Str → Option Value} {fa : Addr} (X : K.In h) (G : h.Ns mainGlobals mg) (hfa : mg "law" = some (.ref fa))
    {od0 an0 : Option Addr} {sl0 : Array (Option Value)} {f0 : Addr} {oc0 kV0 dc0 pm0 cd0 ct0 : Value}
    (a0 : PySem.W.nsIn K mainGlobals "is_integer" = some (some (.ref f0))) (l0 : K.lookup f0 = some ⟨oc0, od0, .func (PySem.W.fnOf "is_integer" "is_integer" (defArgs (topS 8)) (defBody (topS 8)) (defScope (topS 8)) .none kV0 dc0 pm0 an0 cd0 ct0), sl0⟩) (c0 : PySem.W.codeIn K cd0 "is_integer" = true) (k0 : PySem.W.keepIn K (.ref f0) = true)
    {od1 an1 : Option Addr} {sl1 : Array (Option Value)} {f1 : Addr} {oc1 kV1 dc1 pm1 cd1 ct1 : Value}
    (a1 : PySem.W.nsIn K mainGlobals "input_bits" = some (some (.ref f1))) (l1 : K.lookup f1 = some ⟨oc1, od1, .func (PySem.W.fnOf "input_bits" "input_bits" (defArgs (topS 9)) (defBody (topS 9)) (defScope (topS 9)) .none kV1 dc1 pm1 an1 cd1 ct1), sl1⟩) (c1 : PySem.W.codeIn K cd1 "input_bits" = true) (k1 : PySem.W.keepIn K (.ref f1) = true)
    {od2 an2 : Option Addr} {sl2 : Array (Option Value)} {f2 : Addr} {oc2 kV2 dc2 pm2 cd2 ct2 : Value}
    (a2 : PySem.W.nsIn K mainGlobals "bits_of" = some (some (.ref f2))) (l2 : K.lookup f2 = some ⟨oc2, od2, .func (PySem.W.fnOf "bits_of" "bits_of" (defArgs (topS 11)) (defBody (topS 11)) (defScope (topS 11)) .none kV2 dc2 pm2 an2 cd2 ct2), sl2⟩) (c2 : PySem.W.codeIn K cd2 "bits_of" = true) (k2 : PySem.W.keepIn K (.ref f2) = true)
    {od3 an3 : Option Addr} {sl3 : Array (Option Value)} {f3 : Addr} {oc3 kV3 dc3 pm3 cd3 ct3 : Value}
    (a3 : PySem.W.nsIn K mainGlobals "places_of" = some (some (.ref f3))) (l3 : K.lookup f3 = some ⟨oc3, od3, .func (PySem.W.fnOf "places_of" "places_of" (defArgs (topS 12)) (defBody (topS 12)) (defScope (topS 12)) .none kV3 dc3 pm3 an3 cd3 ct3), sl3⟩) (c3 : PySem.W.codeIn K cd3 "places_of" = true) (k3 : PySem.W.keepIn K (.ref f3) = true)
    {od4 an4 : Option Addr} {sl4 : Array (Option Value)} {f4 : Addr} {oc4 kV4 dc4 pm4 cd4 ct4 : Value}
    (a4 : PySem.W.nsIn K mainGlobals "weight" = some (some (.ref f4))) (l4 : K.lookup f4 = some ⟨oc4, od4, .func (PySem.W.fnOf "weight" "weight" (defArgs (topS 13)) (defBody (topS 13)) (defScope (topS 13)) .none kV4 dc4 pm4 an4 cd4 ct4), sl4⟩) (c4 : PySem.W.codeIn K cd4 "weight" = true) (k4 : PySem.W.keepIn K (.ref f4) = true)
    {od5 an5 : Option Addr} {sl5 : Array (Option Value)} {f5 : Addr} {oc5 kV5 dc5 pm5 cd5 ct5 : Value}
    (a5 : PySem.W.nsIn K mainGlobals "least_place" = some (some (.ref f5))) (l5 : K.lookup f5 = some ⟨oc5, od5, .func (PySem.W.fnOf "least_place" "least_place" (defArgs (topS 15)) (defBody (topS 15)) (defScope (topS 15)) .none kV5 dc5 pm5 an5 cd5 ct5), sl5⟩) (c5 : PySem.W.codeIn K cd5 "least_place" = true) (k5 : PySem.W.keepIn K (.ref f5) = true)
    {od6 an6 : Option Addr} {sl6 : Array (Option Value)} {f6 : Addr} {oc6 kV6 dc6 pm6 cd6 ct6 : Value}
    (a6 : PySem.W.nsIn K mainGlobals "bits_at" = some (some (.ref f6))) (l6 : K.lookup f6 = some ⟨oc6, od6, .func (PySem.W.fnOf "bits_at" "bits_at" (defArgs (topS 16)) (defBody (topS 16)) (defScope (topS 16)) .none kV6 dc6 pm6 an6 cd6 ct6), sl6⟩) (c6 : PySem.W.codeIn K cd6 "bits_at" = true) (k6 : PySem.W.keepIn K (.ref f6) = true)
    {od7 an7 : Option Addr} {sl7 : Array (Option Value)} {f7 : Addr} {oc7 kV7 dc7 pm7 cd7 ct7 : Value}
    (a7 : PySem.W.nsIn K mainGlobals "merged" = some (some (.ref f7))) (l7 : K.lookup f7 = some ⟨oc7, od7, .func (PySem.W.fnOf "merged" "merged" (defArgs (topS 17)) (defBody (topS 17)) (defScope (topS 17)) .none kV7 dc7 pm7 an7 cd7 ct7), sl7⟩) (c7 : PySem.W.codeIn K cd7 "merged" = true) (k7 : PySem.W.keepIn K (.ref f7) = true)
    {od8 an8 : Option Addr} {sl8 : Array (Option Value)} {f8 : Addr} {oc8 kV8 dc8 pm8 cd8 ct8 : Value}
    (a8 : PySem.W.nsIn K mainGlobals "tree_for" = some (some (.ref f8))) (l8 : K.lookup f8 = some ⟨oc8, od8, .func (PySem.W.fnOf "tree_for" "tree_for" (defArgs (topS 18)) (defBody (topS 18)) (defScope (topS 18)) .none kV8 dc8 pm8 an8 cd8 ct8), sl8⟩) (c8 : PySem.W.codeIn K cd8 "tree_for" = true) (k8 : PySem.W.keepIn K (.ref f8) = true)
    {od9 an9 : Option Addr} {sl9 : Array (Option Value)} {f9 : Addr} {oc9 kV9 dc9 pm9 cd9 ct9 : Value}
    (a9 : PySem.W.nsIn K mainGlobals "is_input_bit" = some (some (.ref f9))) (l9 : K.lookup f9 = some ⟨oc9, od9, .func (PySem.W.fnOf "is_input_bit" "is_input_bit" (defArgs (topS 19)) (defBody (topS 19)) (defScope (topS 19)) .none kV9 dc9 pm9 an9 cd9 ct9), sl9⟩) (c9 : PySem.W.codeIn K cd9 "is_input_bit" = true) (k9 : PySem.W.keepIn K (.ref f9) = true)
    {od10 an10 : Option Addr} {sl10 : Array (Option Value)} {f10 : Addr} {oc10 kV10 dc10 pm10 cd10 ct10 : Value}
    (a10 : PySem.W.nsIn K mainGlobals "parts_of" = some (some (.ref f10))) (l10 : K.lookup f10 = some ⟨oc10, od10, .func (PySem.W.fnOf "parts_of" "parts_of" (defArgs (topS 20)) (defBody (topS 20)) (defScope (topS 20)) .none kV10 dc10 pm10 an10 cd10 ct10), sl10⟩) (c10 : PySem.W.codeIn K cd10 "parts_of" = true) (k10 : PySem.W.keepIn K (.ref f10) = true)
    {od11 an11 : Option Addr} {sl11 : Array (Option Value)} {f11 : Addr} {oc11 kV11 dc11 pm11 cd11 ct11 : Value}
    (a11 : PySem.W.nsIn K mainGlobals "tree_bits" = some (some (.ref f11))) (l11 : K.lookup f11 = some ⟨oc11, od11, .func (PySem.W.fnOf "tree_bits" "tree_bits" (defArgs (topS 21)) (defBody (topS 21)) (defScope (topS 21)) .none kV11 dc11 pm11 an11 cd11 ct11), sl11⟩) (c11 : PySem.W.codeIn K cd11 "tree_bits" = true) (k11 : PySem.W.keepIn K (.ref f11) = true)
    {od12 an12 : Option Addr} {sl12 : Array (Option Value)} {f12 : Addr} {oc12 kV12 dc12 pm12 cd12 ct12 : Value}
    (a12 : PySem.W.nsIn K mainGlobals "shows_tree" = some (some (.ref f12))) (l12 : K.lookup f12 = some ⟨oc12, od12, .func (PySem.W.fnOf "shows_tree" "shows_tree" (defArgs (topS 22)) (defBody (topS 22)) (defScope (topS 22)) .none kV12 dc12 pm12 an12 cd12 ct12), sl12⟩) (c12 : PySem.W.codeIn K cd12 "shows_tree" = true) (k12 : PySem.W.keepIn K (.ref f12) = true)
    {od13 an13 : Option Addr} {sl13 : Array (Option Value)} {f13 : Addr} {oc13 kV13 dc13 pm13 cd13 ct13 : Value}
    (a13 : PySem.W.nsIn K mainGlobals "_law_pot" = some (some (.ref f13))) (l13 : K.lookup f13 = some ⟨oc13, od13, .func (PySem.W.fnOf "_law_pot" "_law_pot" (defArgs (topS 24)) (defBody (topS 24)) (defScope (topS 24)) .none kV13 dc13 pm13 an13 cd13 ct13), sl13⟩) (c13 : PySem.W.codeIn K cd13 "_law_pot" = true) (k13 : PySem.W.keepIn K (.ref f13) = true)
    {od14 an14 : Option Addr} {sl14 : Array (Option Value)} {f14 : Addr} {oc14 kV14 dc14 pm14 cd14 ct14 : Value}
    (a14 : PySem.W.nsIn K mainGlobals "_law_take" = some (some (.ref f14))) (l14 : K.lookup f14 = some ⟨oc14, od14, .func (PySem.W.fnOf "_law_take" "_law_take" (defArgs (topS 25)) (defBody (topS 25)) (defScope (topS 25)) .none kV14 dc14 pm14 an14 cd14 ct14), sl14⟩) (c14 : PySem.W.codeIn K cd14 "_law_take" = true) (k14 : PySem.W.keepIn K (.ref f14) = true)
    {od15 an15 : Option Addr} {sl15 : Array (Option Value)} {f15 : Addr} {oc15 kV15 dc15 pm15 cd15 ct15 : Value}
    (a15 : PySem.W.nsIn K mainGlobals "_law_shape" = some (some (.ref f15))) (l15 : K.lookup f15 = some ⟨oc15, od15, .func (PySem.W.fnOf "_law_shape" "_law_shape" (defArgs (topS 26)) (defBody (topS 26)) (defScope (topS 26)) .none kV15 dc15 pm15 an15 cd15 ct15), sl15⟩) (c15 : PySem.W.codeIn K cd15 "_law_shape" = true) (k15 : PySem.W.keepIn K (.ref f15) = true)
    {od16 an16 : Option Addr} {sl16 : Array (Option Value)} {f16 : Addr} {oc16 kV16 dc16 pm16 cd16 ct16 : Value}
    (a16 : PySem.W.nsIn K mainGlobals "_law_numbers" = some (some (.ref f16))) (l16 : K.lookup f16 = some ⟨oc16, od16, .func (PySem.W.fnOf "_law_numbers" "_law_numbers" (defArgs (topS 27)) (defBody (topS 27)) (defScope (topS 27)) .none kV16 dc16 pm16 an16 cd16 ct16), sl16⟩) (c16 : PySem.W.codeIn K cd16 "_law_numbers" = true) (k16 : PySem.W.keepIn K (.ref f16) = true)
    {od17 an17 : Option Addr} {sl17 : Array (Option Value)} {f17 : Addr} {oc17 kV17 dc17 pm17 cd17 ct17 : Value}
    (a17 : PySem.W.nsIn K mainGlobals "_law_places" = some (some (.ref f17))) (l17 : K.lookup f17 = some ⟨oc17, od17, .func (PySem.W.fnOf "_law_places" "_law_places" (defArgs (topS 28)) (defBody (topS 28)) (defScope (topS 28)) .none kV17 dc17 pm17 an17 cd17 ct17), sl17⟩) (c17 : PySem.W.codeIn K cd17 "_law_places" = true) (k17 : PySem.W.keepIn K (.ref f17) = true)
    {od18 an18 : Option Addr} {sl18 : Array (Option Value)} {f18 : Addr} {oc18 kV18 dc18 pm18 cd18 ct18 : Value}
    (a18 : PySem.W.nsIn K mainGlobals "_law_is_whole" = some (some (.ref f18))) (l18 : K.lookup f18 = some ⟨oc18, od18, .func (PySem.W.fnOf "_law_is_whole" "_law_is_whole" (defArgs (topS 29)) (defBody (topS 29)) (defScope (topS 29)) .none kV18 dc18 pm18 an18 cd18 ct18), sl18⟩) (c18 : PySem.W.codeIn K cd18 "_law_is_whole" = true) (k18 : PySem.W.keepIn K (.ref f18) = true)
    {od19 an19 : Option Addr} {sl19 : Array (Option Value)} {f19 : Addr} {oc19 kV19 dc19 pm19 cd19 ct19 : Value}
    (a19 : PySem.W.nsIn K mainGlobals "_law_burden" = some (some (.ref f19))) (l19 : K.lookup f19 = some ⟨oc19, od19, .func (PySem.W.fnOf "_law_burden" "_law_burden" (defArgs (topS 30)) (defBody (topS 30)) (defScope (topS 30)) .none kV19 dc19 pm19 an19 cd19 ct19), sl19⟩) (c19 : PySem.W.codeIn K cd19 "_law_burden" = true) (k19 : PySem.W.keepIn K (.ref f19) = true)
    {od20 an20 : Option Addr} {sl20 : Array (Option Value)} {f20 : Addr} {oc20 kV20 dc20 pm20 cd20 ct20 : Value}
    (a20 : PySem.W.nsIn K mainGlobals "_law_low" = some (some (.ref f20))) (l20 : K.lookup f20 = some ⟨oc20, od20, .func (PySem.W.fnOf "_law_low" "_law_low" (defArgs (topS 31)) (defBody (topS 31)) (defScope (topS 31)) .none kV20 dc20 pm20 an20 cd20 ct20), sl20⟩) (c20 : PySem.W.codeIn K cd20 "_law_low" = true) (k20 : PySem.W.keepIn K (.ref f20) = true)
    {od21 an21 : Option Addr} {sl21 : Array (Option Value)} {f21 : Addr} {oc21 kV21 dc21 pm21 cd21 ct21 : Value}
    (a21 : PySem.W.nsIn K mainGlobals "_law_tree_seen" = some (some (.ref f21))) (l21 : K.lookup f21 = some ⟨oc21, od21, .func (PySem.W.fnOf "_law_tree_seen" "_law_tree_seen" (defArgs (topS 32)) (defBody (topS 32)) (defScope (topS 32)) .none kV21 dc21 pm21 an21 cd21 ct21), sl21⟩) (c21 : PySem.W.codeIn K cd21 "_law_tree_seen" = true) (k21 : PySem.W.keepIn K (.ref f21) = true)
    {od22 an22 : Option Addr} {sl22 : Array (Option Value)} {f22 : Addr} {oc22 kV22 dc22 pm22 cd22 ct22 : Value}
    (a22 : PySem.W.nsIn K mainGlobals "_law_is_tree" = some (some (.ref f22))) (l22 : K.lookup f22 = some ⟨oc22, od22, .func (PySem.W.fnOf "_law_is_tree" "_law_is_tree" (defArgs (topS 33)) (defBody (topS 33)) (defScope (topS 33)) .none kV22 dc22 pm22 an22 cd22 ct22), sl22⟩) (c22 : PySem.W.codeIn K cd22 "_law_is_tree" = true) (k22 : PySem.W.keepIn K (.ref f22) = true)
    {od23 an23 : Option Addr} {sl23 : Array (Option Value)} {f23 : Addr} {oc23 kV23 dc23 pm23 cd23 ct23 : Value}
    (a23 : PySem.W.nsIn K mainGlobals "_law_put_together" = some (some (.ref f23))) (l23 : K.lookup f23 = some ⟨oc23, od23, .func (PySem.W.fnOf "_law_put_together" "_law_put_together" (defArgs (topS 34)) (defBody (topS 34)) (defScope (topS 34)) .none kV23 dc23 pm23 an23 cd23 ct23), sl23⟩) (c23 : PySem.W.codeIn K cd23 "_law_put_together" = true) (k23 : PySem.W.keepIn K (.ref f23) = true)
    {od24 an24 : Option Addr} {sl24 : Array (Option Value)} {f24 : Addr} {oc24 kV24 dc24 pm24 cd24 ct24 : Value}
    (a24 : PySem.W.nsIn K mainGlobals "_law_low_told" = some (some (.ref f24))) (l24 : K.lookup f24 = some ⟨oc24, od24, .func (PySem.W.fnOf "_law_low_told" "_law_low_told" (defArgs (topS 35)) (defBody (topS 35)) (defScope (topS 35)) .none kV24 dc24 pm24 an24 cd24 ct24), sl24⟩) (c24 : PySem.W.codeIn K cd24 "_law_low_told" = true) (k24 : PySem.W.keepIn K (.ref f24) = true)
    {od25 an25 : Option Addr} {sl25 : Array (Option Value)} {f25 : Addr} {oc25 kV25 dc25 pm25 cd25 ct25 : Value}
    (a25 : PySem.W.nsIn K mainGlobals "_law_term_right" = some (some (.ref f25))) (l25 : K.lookup f25 = some ⟨oc25, od25, .func (PySem.W.fnOf "_law_term_right" "_law_term_right" (defArgs (topS 36)) (defBody (topS 36)) (defScope (topS 36)) .none kV25 dc25 pm25 an25 cd25 ct25), sl25⟩) (c25 : PySem.W.codeIn K cd25 "_law_term_right" = true) (k25 : PySem.W.keepIn K (.ref f25) = true)
    {od26 an26 : Option Addr} {sl26 : Array (Option Value)} {f26 : Addr} {oc26 kV26 dc26 pm26 cd26 ct26 : Value}
    (a26 : PySem.W.nsIn K mainGlobals "law" = some (some (.ref f26))) (l26 : K.lookup f26 = some ⟨oc26, od26, .func (PySem.W.fnOf "law" "law" (defArgs (topS 37)) (defBody (topS 37)) (defScope (topS 37)) .none kV26 dc26 pm26 an26 cd26 ct26), sl26⟩) (c26 : PySem.W.codeIn K cd26 "law" = true) (k26 : PySem.W.keepIn K (.ref f26) = true)
    (z0 : PySem.W.nsIn K mainGlobals "abs" = some none)
    (z1 : PySem.W.nsIn K mainGlobals "bool" = some none)
    (z2 : PySem.W.nsIn K mainGlobals "int" = some none)
    (z3 : PySem.W.nsIn K mainGlobals "isinstance" = some none)
    (z4 : PySem.W.nsIn K mainGlobals "len" = some none)
    (z5 : PySem.W.nsIn K mainGlobals "list" = some none)
    (z6 : PySem.W.nsIn K mainGlobals "max" = some none)
    (z7 : PySem.W.nsIn K mainGlobals "min" = some none)
    (z8 : PySem.W.nsIn K mainGlobals "range" = some none)
    (z9 : PySem.W.nsIn K mainGlobals "repr" = some none)
    (z10 : PySem.W.nsIn K mainGlobals "set" = some none)
    (z11 : PySem.W.nsIn K mainGlobals "str" = some none)
    (z12 : PySem.W.nsIn K mainGlobals "sum" = some none)
    (z13 : PySem.W.nsIn K mainGlobals "tuple" = some none)
    (nd2 : PySem.W.nsIn K cStatics "sys.int_max_str_digits" = some none)
    (xhn : PySem.W.specialIn K (.builtin "object.__class__") "__get__" = some (some (.builtin "getset_descriptor.__get__")))
    (xht : PySem.W.takesIn K (.builtin "object.__class__") = some true)
    {xC0 : Addr}
    (xa0 : PySem.W.nsIn K mainGlobals "TooLow" = some (some (.ref xC0)))
    {xC1 : Addr}
    (xa1 : PySem.W.nsIn K mainGlobals "ReachError" = some (some (.ref xC1)))
    (xd1 : PySem.W.hasDictIn K xC1 = true)
    (xt1 : PySem.W.typeIn K (.ref xC1) = some (.type "type"))
    (xe1 : PySem.W.subIn K (.ref xC1) (.type "BaseException") = some true)
    {xC2 : Addr}
    (xa2 : PySem.W.nsIn K mainGlobals "UnknownName" = some (some (.ref xC2)))
    (xd2 : PySem.W.hasDictIn K xC2 = true)
    (xt2 : PySem.W.typeIn K (.ref xC2) = some (.type "type"))
    {xC3 : Addr}
    (xa3 : PySem.W.nsIn K mainGlobals "NoPlace" = some (some (.ref xC3)))
    (xd3 : PySem.W.hasDictIn K xC3 = true)
    (xt3 : PySem.W.typeIn K (.ref xC3) = some (.type "type"))
    {xC4 : Addr}
    (xa4 : PySem.W.nsIn K mainGlobals "NotComputed" = some (some (.ref xC4)))
    (xd4 : PySem.W.hasDictIn K xC4 = true)
    (xt4 : PySem.W.typeIn K (.ref xC4) = some (.type "type"))
    {xC5 : Addr}
    (xa5 : PySem.W.nsIn K mainGlobals "TooMany" = some (some (.ref xC5)))
    (xd5 : PySem.W.hasDictIn K xC5 = true)
    (xt5 : PySem.W.typeIn K (.ref xC5) = some (.type "type"))
    {xI0 : Addr} {xnm0 xq0 : Str} {xN0 : Addr} {xbs0 xbm0 : List Value} {xsn0 : List Str} {xsub0 : List Value} {xab0 : Bool} {xcol0 : Option Bool} {xdd0 : Option Addr} {xka0 xkb0 xkc0 xkd0 xke0 : Option Value} {xoc0 : Value} {xod0 xan0 : Option Addr} {xsl0 : Array (Option Value)} {xkV0 xdc0 xpm0 xcd0 xct0 : Value}
    (xl0 : K.lookup xC0 = some (excClassObj xnm0 xq0 xC0 xN0 xbs0 xbm0 true xsn0 xsub0 xab0 xcol0 xdd0 xka0 xkb0 xkc0 xkd0 xke0 "ValueError.__new__"))
    (xb0 : PySem.HandSPX.refsVE xbm0 = true)
    (xs0 : PySem.W.findIn K (.ref xC0) "__setattr__" = some (some (.builtin "object.__setattr__")))
    (xe0 : PySem.W.subIn K (.ref xC0) (.type "BaseException") = some true)
    (xt0 : PySem.W.typeIn K (.ref xC0) = some (.type "type"))
    (xk0 : PySem.W.keepIn K (.ref xC0) = true)
    (xg0 : PySem.W.findIn K (.ref xC0) "__getattribute__" = some (some (.builtin "BaseException.__getattribute__")))
    (xh0 : PySem.W.findIn K (.ref xC0) "__getattr__" = some none)
    (xd0 : PySem.W.hasDictIn K xC0 = true)
    (xo0 : PySem.W.findIn K (.ref xC0) "value" = some none)
    (xc0 : PySem.W.findIn K (.ref xC0) "__class__" = some (some (.builtin "object.__class__")))
    (xm0 : PySem.W.mroIn K xC0 (.type "object") = some true)
    (xi0 : PySem.W.findIn K (.ref xC0) "__init__" = some (some (.ref xI0)))
    (xj0 : PySem.W.typeIn K (.ref xI0) = some (.type "function"))
    (xf0 : K.lookup xI0 = some ⟨xoc0, xod0, .func (PySem.W.fnOf "__init__" "TooLow.__init__" (clsArgs (topS 5)) (clsBody (topS 5)) (clsScope (topS 5)) .none xkV0 xdc0 xpm0 xan0 xcd0 xct0), xsl0⟩)
    (xw0 : PySem.W.codeIn K xcd0 "TooLow.__init__" = true)
    (xy0 : PySem.W.keepIn K (.ref xI0) = true)
    (xp0_0 : PySem.W.mroIn K xC0 (.ref xC0) = some true)
    (xp0_1 : PySem.W.mroIn K xC0 (.ref xC1) = some true)
    (xp0_2 : PySem.W.mroIn K xC0 (.ref xC2) = some false)
    (xq0_2 : (xC0 == xC2) = false)
    (xp0_3 : PySem.W.mroIn K xC0 (.ref xC3) = some false)
    (xq0_3 : (xC0 == xC3) = false)
    (xp0_4 : PySem.W.mroIn K xC0 (.ref xC4) = some false)
    (xq0_4 : (xC0 == xC4) = false)
    (xp0_5 : PySem.W.mroIn K xC0 (.ref xC5) = some false)
    (xq0_5 : (xC0 == xC5) = false) :
    ∃ fd : FuncData, (∀ (s : Shared) (u : Value), BindsTo s fd ⟨[u], []⟩ [("_law_script", u)]) ∧ ∀ base : Heap, K.In base → base.Ns mainGlobals mg → FnG ⟨K, mg, w.params, [], none, xs⟩ P w base 63 fa fd ["_law_script"] (spF ⟨K, mg, w.params, [], none, xs⟩ (fnN Δ 60 "law")) := by
  have e := hfa.symm.trans (PySem.W.mg_of X G a26)
  cases e
  obtain ⟨fd0, T0⟩ := defK_mk (g := ⟨K, mg, w.params, [], none, xs⟩) (st := topS 8) l0 c0 k0 (PySem.W.mg_of X G a0)
  obtain ⟨fd1, T1⟩ := defK_mk (g := ⟨K, mg, w.params, [], none, xs⟩) (st := topS 9) l1 c1 k1 (PySem.W.mg_of X G a1)
  obtain ⟨fd2, T2⟩ := defK_mk (g := ⟨K, mg, w.params, [], none, xs⟩) (st := topS 11) l2 c2 k2 (PySem.W.mg_of X G a2)
  obtain ⟨fd3, T3⟩ := defK_mk (g := ⟨K, mg, w.params, [], none, xs⟩) (st := topS 12) l3 c3 k3 (PySem.W.mg_of X G a3)
  obtain ⟨fd4, T4⟩ := defK_mk (g := ⟨K, mg, w.params, [], none, xs⟩) (st := topS 13) l4 c4 k4 (PySem.W.mg_of X G a4)
  obtain ⟨fd5, T5⟩ := defK_mk (g := ⟨K, mg, w.params, [], none, xs⟩) (st := topS 15) l5 c5 k5 (PySem.W.mg_of X G a5)
  obtain ⟨fd6, T6⟩ := defK_mk (g := ⟨K, mg, w.params, [], none, xs⟩) (st := topS 16) l6 c6 k6 (PySem.W.mg_of X G a6)
  obtain ⟨fd7, T7⟩ := defK_mk (g := ⟨K, mg, w.params, [], none, xs⟩) (st := topS 17) l7 c7 k7 (PySem.W.mg_of X G a7)
  obtain ⟨fd8, T8⟩ := defK_mk (g := ⟨K, mg, w.params, [], none, xs⟩) (st := topS 18) l8 c8 k8 (PySem.W.mg_of X G a8)
  obtain ⟨fd9, T9⟩ := defK_mk (g := ⟨K, mg, w.params, [], none, xs⟩) (st := topS 19) l9 c9 k9 (PySem.W.mg_of X G a9)
  obtain ⟨fd10, T10⟩ := defK_mk (g := ⟨K, mg, w.params, [], none, xs⟩) (st := topS 20) l10 c10 k10 (PySem.W.mg_of X G a10)
  obtain ⟨fd11, T11⟩ := defK_mk (g := ⟨K, mg, w.params, [], none, xs⟩) (st := topS 21) l11 c11 k11 (PySem.W.mg_of X G a11)
  obtain ⟨fd12, T12⟩ := defK_mk (g := ⟨K, mg, w.params, [], none, xs⟩) (st := topS 22) l12 c12 k12 (PySem.W.mg_of X G a12)
  obtain ⟨fd13, T13⟩ := defK_mk (g := ⟨K, mg, w.params, [], none, xs⟩) (st := topS 24) l13 c13 k13 (PySem.W.mg_of X G a13)
  obtain ⟨fd14, T14⟩ := defK_mk (g := ⟨K, mg, w.params, [], none, xs⟩) (st := topS 25) l14 c14 k14 (PySem.W.mg_of X G a14)
  obtain ⟨fd15, T15⟩ := defK_mk (g := ⟨K, mg, w.params, [], none, xs⟩) (st := topS 26) l15 c15 k15 (PySem.W.mg_of X G a15)
  obtain ⟨fd16, T16⟩ := defK_mk (g := ⟨K, mg, w.params, [], none, xs⟩) (st := topS 27) l16 c16 k16 (PySem.W.mg_of X G a16)
  obtain ⟨fd17, T17⟩ := defK_mk (g := ⟨K, mg, w.params, [], none, xs⟩) (st := topS 28) l17 c17 k17 (PySem.W.mg_of X G a17)
  obtain ⟨fd18, T18⟩ := defK_mk (g := ⟨K, mg, w.params, [], none, xs⟩) (st := topS 29) l18 c18 k18 (PySem.W.mg_of X G a18)
  obtain ⟨fd19, T19⟩ := defK_mk (g := ⟨K, mg, w.params, [], none, xs⟩) (st := topS 30) l19 c19 k19 (PySem.W.mg_of X G a19)
  obtain ⟨fd20, T20⟩ := defK_mk (g := ⟨K, mg, w.params, [], none, xs⟩) (st := topS 31) l20 c20 k20 (PySem.W.mg_of X G a20)
  obtain ⟨fd21, T21⟩ := defK_mk (g := ⟨K, mg, w.params, [], none, xs⟩) (st := topS 32) l21 c21 k21 (PySem.W.mg_of X G a21)
  obtain ⟨fd22, T22⟩ := defK_mk (g := ⟨K, mg, w.params, [], none, xs⟩) (st := topS 33) l22 c22 k22 (PySem.W.mg_of X G a22)
  obtain ⟨fd23, T23⟩ := defK_mk (g := ⟨K, mg, w.params, [], none, xs⟩) (st := topS 34) l23 c23 k23 (PySem.W.mg_of X G a23)
  obtain ⟨fd24, T24⟩ := defK_mk (g := ⟨K, mg, w.params, [], none, xs⟩) (st := topS 35) l24 c24 k24 (PySem.W.mg_of X G a24)
  obtain ⟨fd25, T25⟩ := defK_mk (g := ⟨K, mg, w.params, [], none, xs⟩) (st := topS 36) l25 c25 k25 (PySem.W.mg_of X G a25)
  obtain ⟨fd26, T26⟩ := defK_mk (g := ⟨K, mg, w.params, [], none, xs⟩) (st := topS 37) l26 c26 k26 (PySem.W.mg_of X G a26)
  have GD : ∀ x kvs, gd x = some kvs → ∃ d, mg x = some (.ref d) ∧ KDs ⟨K, mg, w.params, [], none, xs⟩ d kvs := fun x kvs h => by
    unfold gd at h
    cases h
  have GC : ∀ x d, gc x = some d → ∃ v u, mg x = some u ∧ RelV v u ∧ GVal ⟨K, mg, w.params, [], none, xs⟩ v d := fun x d h => by
    unfold gc at h
    cases h
  have XF0 : XcF ⟨K, mg, w.params, [], none, xs⟩ "TooLow" "value" xC0 := xcf_mk (st := topS 5) n_TooLow m_TooLow ⟨by decide, by decide⟩ v_TooLow (show _ ∈ xs by decide +kernel) (PySem.W.mg_of X G xa0) xl0 xb0 xs0 xe0 xt0 xk0 xg0 xh0 xd0 xo0 xc0 xhn xht xm0 xi0 xj0 xf0 xw0 xy0
  have XN : ∀ x f, xn x = some f → ∃ C, XcF ⟨K, mg, w.params, [], none, xs⟩ x f C := fun x f h => by
    unfold xn at h
    by_cases e0 : x = "TooLow"
    · subst e0
      obtain rfl : ("value" : Str) = f := Option.some.inj (show some ("value" : Str) = some f from h)
      exact ⟨_, XF0⟩
    rw [if_neg e0] at h
    cases h
  have XI : ∀ y, xi y = true → ((∃ D, mg y = some (.ref D)) ∨ (y = ("ValueError" : Str) ∧ mg y = none)) ∧ ∀ x ∈ xs, XiF ⟨K, mg, w.params, [], none, xs⟩ x y := fun y h => by
    simp only [xi, Bool.or_eq_true, decide_eq_true_eq] at h
    rcases h with (((((rfl | rfl) | rfl) | rfl) | rfl) | rfl)
    · refine ⟨.inl ⟨_, PySem.W.mg_of X G xa1⟩, fun x hx => ?_⟩
      have hx : x ∈ xs := hx
      simp only [xs, List.mem_cons, List.not_mem_nil, or_false] at hx
      subst hx
      exact ⟨xC0, PySem.W.mg_of X G xa0, .inl ⟨xC1, PySem.W.mg_of X G xa1, (kit_mk xd1 xt1 xp0_1 (.inl rfl)).trans (congrArg some (by decide +kernel))⟩⟩
    · refine ⟨.inl ⟨_, PySem.W.mg_of X G xa2⟩, fun x hx => ?_⟩
      have hx : x ∈ xs := hx
      simp only [xs, List.mem_cons, List.not_mem_nil, or_false] at hx
      subst hx
      exact ⟨xC0, PySem.W.mg_of X G xa0, .inl ⟨xC2, PySem.W.mg_of X G xa2, (kit_mk xd2 xt2 xp0_2 (.inr xq0_2)).trans (congrArg some (by decide +kernel))⟩⟩
    · refine ⟨.inl ⟨_, PySem.W.mg_of X G xa3⟩, fun x hx => ?_⟩
      have hx : x ∈ xs := hx
      simp only [xs, List.mem_cons, List.not_mem_nil, or_false] at hx
      subst hx
      exact ⟨xC0, PySem.W.mg_of X G xa0, .inl ⟨xC3, PySem.W.mg_of X G xa3, (kit_mk xd3 xt3 xp0_3 (.inr xq0_3)).trans (congrArg some (by decide +kernel))⟩⟩
    · refine ⟨.inl ⟨_, PySem.W.mg_of X G xa4⟩, fun x hx => ?_⟩
      have hx : x ∈ xs := hx
      simp only [xs, List.mem_cons, List.not_mem_nil, or_false] at hx
      subst hx
      exact ⟨xC0, PySem.W.mg_of X G xa0, .inl ⟨xC4, PySem.W.mg_of X G xa4, (kit_mk xd4 xt4 xp0_4 (.inr xq0_4)).trans (congrArg some (by decide +kernel))⟩⟩
    · refine ⟨.inl ⟨_, PySem.W.mg_of X G xa0⟩, fun x hx => ?_⟩
      have hx : x ∈ xs := hx
      simp only [xs, List.mem_cons, List.not_mem_nil, or_false] at hx
      subst hx
      exact ⟨xC0, PySem.W.mg_of X G xa0, .inl ⟨xC0, PySem.W.mg_of X G xa0, (kit_mk xd0 xt0 xp0_0 (.inl rfl)).trans (congrArg some (by decide +kernel))⟩⟩
    · refine ⟨.inl ⟨_, PySem.W.mg_of X G xa5⟩, fun x hx => ?_⟩
      have hx : x ∈ xs := hx
      simp only [xs, List.mem_cons, List.not_mem_nil, or_false] at hx
      subst hx
      exact ⟨xC0, PySem.W.mg_of X G xa0, .inl ⟨xC5, PySem.W.mg_of X G xa5, (kit_mk xd5 xt5 xp0_5 (.inr xq0_5)).trans (congrArg some (by decide +kernel))⟩⟩
  have XO : ∀ x f C, mi.xn x = some f → XcF ⟨K, mg, w.params, [], none, xs⟩ x f C → PySem.W.exmOne K (.ref C) (.ref C) = some true := fun x f C h F => by
    have hx : x ∈ xs := F.inn
    have hm := F.mg
    simp only [xs, List.mem_cons, List.not_mem_nil, or_false] at hx
    subst hx
    · cases hm.symm.trans (PySem.W.mg_of X G xa0)
      exact exm_mk xd0 xt0 xe0 xp0_0
  have XR : xi "ReachError" = true → ∃ R, mg "ReachError" = some (.ref R) ∧ ∀ x f C, XcF ⟨K, mg, w.params, [], none, xs⟩ x f C → PySem.W.exmOne K (.ref C) (.ref R) = some true := fun _ => ⟨xC1, PySem.W.mg_of X G xa1, fun x f C F => by
    have hx : x ∈ xs := F.inn
    have hm := F.mg
    simp only [xs, List.mem_cons, List.not_mem_nil, or_false] at hx
    rcases hx with rfl
    · cases hm.symm.trans (PySem.W.mg_of X G xa0)
      exact exm_mk xd1 xt1 xe1 xp0_1⟩
  have MFm : MF ⟨K, mg, w.params, [], none, xs⟩ mi := ⟨bn_none (PySem.W.mg_none_of X G z0) (PySem.W.mg_none_of X G z1) (PySem.W.mg_none_of X G z2) (PySem.W.mg_none_of X G z3) (PySem.W.mg_none_of X G z4) (PySem.W.mg_none_of X G z5) (PySem.W.mg_none_of X G z6) (PySem.W.mg_none_of X G z7) (PySem.W.mg_none_of X G z8) (PySem.W.mg_none_of X G z9) (PySem.W.mg_none_of X G z10) (PySem.W.mg_none_of X G z11) (PySem.W.mg_none_of X G z12) (PySem.W.mg_none_of X G z13), GD, GC, XN, XI, nd2, XO, XR⟩
  refine ⟨fd26, fun s u => bind_one s_law T26 rfl s u, fun base _ _ => law_ok (g := ⟨K, mg, w.params, [], none, xs⟩) (m := mi) rfl (fun x => dn_some) MFm (all_at ⟨_, _, T0⟩ ⟨_, _, T1⟩ ⟨_, _, T2⟩ ⟨_, _, T3⟩ ⟨_, _, T4⟩ ⟨_, _, T5⟩ ⟨_, _, T6⟩ ⟨_, _, T7⟩ ⟨_, _, T8⟩ ⟨_, _, T9⟩ ⟨_, _, T10⟩ ⟨_, _, T11⟩ ⟨_, _, T12⟩ ⟨_, _, T13⟩ ⟨_, _, T14⟩ ⟨_, _, T15⟩ ⟨_, _, T16⟩ ⟨_, _, T17⟩ ⟨_, _, T18⟩ ⟨_, _, T19⟩ ⟨_, _, T20⟩ ⟨_, _, T21⟩ ⟨_, _, T22⟩ ⟨_, _, T23⟩ ⟨_, _, T24⟩ ⟨_, _, T25⟩ ⟨_, _, T26⟩) rfl s_law T26⟩
end Lw_k44
open PySem PySem.W PyProof.Rows
set_option maxHeartbeats 0 in
theorem PySem.Challenge.cw_wordreach_k44_trees_for_terms_holds : PySem.Challenge.rw_wordreach_k44_trees_for_terms.Holds := by
  w_on; o_law; k_head; (case hw => w_witness2)
  k_fill
  refine Wr.walkG (xs := Lw_k44.xs) (l := PySem.Challenge.rw_wordreach_k44_trees_for_terms) (n := 63) (k := 63) (x := "_law_script") (cf := Wr.fnN Lw_k44.Δ 60 "law") rfl (by decide) rfl ⟨rfl, by decide, by decide⟩ (fun w h Y => PySem.W.kIn_of Y) ?F (fun ns hl => Lw_k44.law_true ns hl)
  case F =>
    intro w mg fa h KX G hmg
    refine' Lw_k44.all_mk KX G hmg ?a0 ?l0 ?c0 ?k0 ?a1 ?l1 ?c1 ?k1 ?a2 ?l2 ?c2 ?k2 ?a3 ?l3 ?c3 ?k3 ?a4 ?l4 ?c4 ?k4 ?a5 ?l5 ?c5 ?k5 ?a6 ?l6 ?c6 ?k6 ?a7 ?l7 ?c7 ?k7 ?a8 ?l8 ?c8 ?k8 ?a9 ?l9 ?c9 ?k9 ?a10 ?l10 ?c10 ?k10 ?a11 ?l11 ?c11 ?k11 ?a12 ?l12 ?c12 ?k12 ?a13 ?l13 ?c13 ?k13 ?a14 ?l14 ?c14 ?k14 ?a15 ?l15 ?c15 ?k15 ?a16 ?l16 ?c16 ?k16 ?a17 ?l17 ?c17 ?k17 ?a18 ?l18 ?c18 ?k18 ?a19 ?l19 ?c19 ?k19 ?a20 ?l20 ?c20 ?k20 ?a21 ?l21 ?c21 ?k21 ?a22 ?l22 ?c22 ?k22 ?a23 ?l23 ?c23 ?k23 ?a24 ?l24 ?c24 ?k24 ?a25 ?l25 ?c25 ?k25 ?a26 ?l26 ?c26 ?k26 ?z0 ?z1 ?z2 ?z3 ?z4 ?z5 ?z6 ?z7 ?z8 ?z9 ?z10 ?z11 ?z12 ?z13 ?nd2 ?xhn ?xht ?xa0 ?xa1 ?xd1 ?xt1 ?xe1 ?xa2 ?xd2 ?xt2 ?xa3 ?xd3 ?xt3 ?xa4 ?xd4 ?xt4 ?xa5 ?xd5 ?xt5 ?xl0 ?xb0 ?xs0 ?xe0 ?xt0 ?xk0 ?xg0 ?xh0 ?xd0 ?xo0 ?xc0 ?xm0 ?xi0 ?xj0 ?xf0 ?xw0 ?xy0 ?xp0_0 ?xp0_1 ?xp0_2 ?xq0_2 ?xp0_3 ?xq0_3 ?xp0_4 ?xq0_4 ?xp0_5 ?xq0_5
    (case a0 => k_is); (case l0 => k_is); (case c0 => k_is); (case k0 => k_is); (case a1 => k_is); (case l1 => k_is); (case c1 => k_is); (case k1 => k_is); (case a2 => k_is); (case l2 => k_is); (case c2 => k_is); (case k2 => k_is); (case a3 => k_is); (case l3 => k_is); (case c3 => k_is); (case k3 => k_is); (case a4 => k_is); (case l4 => k_is); (case c4 => k_is); (case k4 => k_is); (case a5 => k_is); (case l5 => k_is); (case c5 => k_is); (case k5 => k_is); (case a6 => k_is); (case l6 => k_is); (case c6 => k_is); (case k6 => k_is); (case a7 => k_is); (case l7 => k_is); (case c7 => k_is); (case k7 => k_is); (case a8 => k_is); (case l8 => k_is); (case c8 => k_is); (case k8 => k_is); (case a9 => k_is); (case l9 => k_is); (case c9 => k_is); (case k9 => k_is); (case a10 => k_is); (case l10 => k_is); (case c10 => k_is); (case k10 => k_is); (case a11 => k_is); (case l11 => k_is); (case c11 => k_is); (case k11 => k_is); (case a12 => k_is); (case l12 => k_is); (case c12 => k_is); (case k12 => k_is); (case a13 => k_is); (case l13 => k_is); (case c13 => k_is); (case k13 => k_is); (case a14 => k_is); (case l14 => k_is); (case c14 => k_is); (case k14 => k_is); (case a15 => k_is); (case l15 => k_is); (case c15 => k_is); (case k15 => k_is); (case a16 => k_is); (case l16 => k_is); (case c16 => k_is); (case k16 => k_is); (case a17 => k_is); (case l17 => k_is); (case c17 => k_is); (case k17 => k_is); (case a18 => k_is); (case l18 => k_is); (case c18 => k_is); (case k18 => k_is); (case a19 => k_is); (case l19 => k_is); (case c19 => k_is); (case k19 => k_is); (case a20 => k_is); (case l20 => k_is); (case c20 => k_is); (case k20 => k_is); (case a21 => k_is); (case l21 => k_is); (case c21 => k_is); (case k21 => k_is); (case a22 => k_is); (case l22 => k_is); (case c22 => k_is); (case k22 => k_is); (case a23 => k_is); (case l23 => k_is); (case c23 => k_is); (case k23 => k_is); (case a24 => k_is); (case l24 => k_is); (case c24 => k_is); (case k24 => k_is); (case a25 => k_is); (case l25 => k_is); (case c25 => k_is); (case k25 => k_is); (case a26 => k_is); (case l26 => k_is); (case c26 => k_is); (case k26 => k_is); (case z0 => k_is); (case z1 => k_is); (case z2 => k_is); (case z3 => k_is); (case z4 => k_is); (case z5 => k_is); (case z6 => k_is); (case z7 => k_is); (case z8 => k_is); (case z9 => k_is); (case z10 => k_is); (case z11 => k_is); (case z12 => k_is); (case z13 => k_is); (case nd2 => k_is); (case xhn => k_is); (case xht => k_is); (case xa0 => k_is); (case xa1 => k_is); (case xd1 => k_is); (case xt1 => k_is); (case xe1 => k_is); (case xa2 => k_is); (case xd2 => k_is); (case xt2 => k_is); (case xa3 => k_is); (case xd3 => k_is); (case xt3 => k_is); (case xa4 => k_is); (case xd4 => k_is); (case xt4 => k_is); (case xa5 => k_is); (case xd5 => k_is); (case xt5 => k_is); (case xl0 => k_is); (case xb0 => rfl); (case xs0 => k_is); (case xe0 => k_is); (case xt0 => k_is); (case xk0 => k_is); (case xg0 => k_is); (case xh0 => k_is); (case xd0 => k_is); (case xo0 => k_is); (case xc0 => k_is); (case xm0 => k_is); (case xi0 => k_is); (case xj0 => k_is); (case xf0 => k_is); (case xw0 => k_is); (case xy0 => k_is); (case xp0_0 => k_is); (case xp0_1 => k_is); (case xp0_2 => k_is); (case xq0_2 => rfl); (case xp0_3 => k_is); (case xq0_3 => rfl); (case xp0_4 => k_is); (case xq0_4 => rfl); (case xp0_5 => k_is); (case xq0_5 => rfl)
