import PyProof.Rows.All
import Wide.All
import OpenK.AllK
import Wide.FinOn
import HandS.ForMost
import HandS.IsInst
import HandS.Wide
import HandS.Nested
import HandS.ExcInit
import HandS.Style
import HandS.TupMul
import HandS.TupAny
import KE.IntBitsLaws
import HandS.Rev
import HandS.Exc
import HandS.TryOnly
import HandS.EndBits
import HandS.RaiseMore
import HandS.ForExc
import HandS.ExcCtx
import HandS.HotCalls
import HandS.Small
import HandS.Defaults
import HandS.WordsDict
import HandS.More
import HandS.ExcField
import HandS.Iter
import KE.GoesEnumKw
import HandS.DictComp
import HandS.HeadHook3
import HandS.Strs
import HandS.SetKeys
import HandS.Star
import HandS.FStr
import HandS.RevTup
import HandS.OwnEq
import HandS.Conv
import PyProof.DictTruth
import HandS.Zip
import HandS.SortRule
import HandS.SortInts
import HandS.Replace
import HandS.EndTab
import KE.KNestM
import HandS.Deep
import HandS.ExcIs
import KE.KExcIs
import HandS.TupLe
import HandS.ExcValue
import KE.DataCmp
import PySem.Challenge.RW_quietbroom_k14_octets_cut
set_option Elab.async false
set_option linter.all false
set_option maxRecDepth 100000
set_option maxHeartbeats 4000000
set_option autoImplicit false
namespace Vf
open PySem L2
/-! conditions that nothing evaluates -/
noncomputable def cif {α : Type} (p : Prop) (a b : α) : α := @ite α p (Classical.propDecidable p) a b
theorem cif_pos {α : Type} {p : Prop} {a b : α} (h : p) : cif p a b = a := @if_pos p (Classical.propDecidable p) h _ a b
theorem cif_neg {α : Type} {p : Prop} {a b : α} (h : ¬ p) : cif p a b = b := @if_neg p (Classical.propDecidable p) h _ a b
noncomputable def cdec (p : Prop) : Bool := @decide p (Classical.propDecidable p)
theorem cdec_eq (p : Prop) [i : Decidable p] : cdec p = decide p := by
  unfold cdec
  congr
/-! data: what a value is worth, as a tree -/
inductive D where
  | non | bl (b : Bool) | int (i : Int) | str (s : Str)
  | lst (xs : List D) | scr (xs : List D) | tup (xs : List D)
  | ins (c : Str) (fs : List Str) (ds : List D)
  | dic (ks : List Key) (ds : List D)
  | exn (c : Str) (ns : List Str) (ds : List D)
/-- N: may be handed on; B: only to be read here; T: for this expression alone; O: the list of an own name -/
inductive Tg where | N | B | T | O
  deriving DecidableEq
abbrev TD := Tg × D
/-- a value that may be a handle: the number of an object that may change -/
inductive HV where | pu (d : D) | ob (n : Nat)
inductive Mob where
  | lst (xs : List HV) | tup (xs : List HV)
  | ins (c : Str) (fs : List Str) (xs : List HV)
  | dic (ks : List Key) (xs : List HV)
  | cod (q : Str)
abbrev Tb := List (Option Mob)
inductive Sl where | un | val (t : Tg) (d : D) | own (ds : List D) | han (n : Nat) | exo (a dx C : Addr) (c : Str) (ns : List Str) (ds : List D) | clo (f : Addr) (F : NdefX.NF) (us : List V) (xs : List HV)
structure Ev where
  s : List Sl
  t : Tb
abbrev Ev.put (e : Ev) (i : Nat) (s : Sl) : Ev := ⟨e.s.set i s, e.t⟩
inductive Out where | nx (e : Ev) | rt (r : TD) | bk (e : Ev) | ct (e : Ev) | rth (x : HV) (T : Tb)
abbrev FE := Ev → Option TD
abbrev FA := Ev → Option (List TD)
abbrev FT := Ev → Option Bool
abbrev FS := Ev → Option Out
def isS : D → Bool
  | .non => true | .bl _ => true | .int _ => true | .str _ => true
  | .lst _ => false | .scr _ => false | .tup _ => false | .ins _ _ _ => false | .dic _ _ => false | .exn _ _ _ => false
def vOf : D → V
  | .non => .non | .bl b => .bl b | .int i => .int i | .str s => .str s
  | .lst _ => .non | .scr _ => .non | .tup _ => .non | .ins _ _ _ => .non | .dic _ _ => .non | .exn _ _ _ => .non
/-- a scalar may always be handed on -/
def nm : TD → TD
  | (_, .non) => (.N, .non) | (_, .bl b) => (.N, .bl b) | (_, .int i) => (.N, .int i) | (_, .str s) => (.N, .str s)
  | (t, d) => (t, d)
/-- the tag of an item -/
def el : Tg → Tg | .N => .N | .B => .B | .T => .T | .O => .N
/-- the tag of a thing that holds both -/
def mt2 : Tg → Tg → Tg
  | .N, .N => .N
  | .N, .B => .B | .B, .N => .B | .B, .B => .B
  | _, _ => .T
structure Zc where
  K : PySem.W.Frag
  cl : Str → Option Addr
mutual
inductive Rp (Z : Zc) (H : Hp) : V → D → Prop
  | non : Rp Z H .non .non
  | bl (b : Bool) : Rp Z H (.bl b) (.bl b)
  | int (i : Int) : Rp Z H (.int i) (.int i)
  | str (s : Str) : Rp Z H (.str s) (.str s)
  | lst {a : Addr} {xs : List V} {ds : List D} : H a = some (.lst xs) → RpL Z H xs ds → Rp Z H (.ref a) (.lst ds)
  | scr {a : Addr} {xs : List V} {ds : List D} : SqL Z.K H a xs → RpL Z H xs ds → Rp Z H (.ref a) (.scr ds)
  | tup {a : Addr} {xs : List V} {ds : List D} : SqT Z.K H a xs → RpL Z H xs ds → Rp Z H (.ref a) (.tup ds)
  | ins {a C dx : Addr} {c : Str} {fs : List Str} {vs : List V} {ds : List D} : H a = some (.ins C dx (fs.zip vs)) → Z.cl c = some C → vs.length = fs.length → RpL Z H vs ds → Rp Z H (.ref a) (.ins c fs ds)
  | dic {a : Addr} {ks : List Key} {vs : List V} {ds : List D} : Rd H a (.dK (ks.zip vs)) → vs.length = ks.length → RpL Z H vs ds → Rp Z H (.ref a) (.dic ks ds)
  | exn {a C : Addr} {od : Option Addr} {c : Str} {ns : List Str} {vs : List V} {ds : List D} : H a = some (exo a C od) → (od = none ∧ ns = [] ∨ ∃ dx, od = some dx ∧ H dx = some (exd dx (ns.zip vs))) → Z.cl c = some C → vs.length = ns.length → RpL Z H vs ds → Rp Z H (.ref a) (.exn c ns ds)
inductive RpL (Z : Zc) (H : Hp) : List V → List D → Prop
  | nil : RpL Z H [] []
  | cons {v : V} {vs : List V} {d : D} {ds : List D} : Rp Z H v d → RpL Z H vs ds → RpL Z H (v :: vs) (d :: ds)
end
theorem rd_mono {H H' : Hp} {a : Addr} {u : HO} (e : Same H H') (h : Rd H a u) : Rd H' a u := by
  rcases h with h | ⟨o, h⟩
  · exact .inl (e _ _ h)
  · exact .inr ⟨o, e _ _ h⟩
theorem sqT_mono {K : PySem.W.Frag} {H H' : Hp} {a : Addr} {xs : List V} (e : Same H H') (h : SqT K H a xs) : SqT K H' a xs := by
  rcases h with h | h
  · exact .inl (rd_mono e h)
  · exact .inr h
mutual
theorem Rp.mono {Z : Zc} {H H' : Hp} (e : Same H H') : ∀ {v : V} {d : D}, Rp Z H v d → Rp Z H' v d
  | _, _, .non => .non
  | _, _, .bl b => .bl b
  | _, _, .int i => .int i
  | _, _, .str s => .str s
  | _, _, .lst h r => .lst (e _ _ h) (RpL.mono e r)
  | _, _, .scr h r => .scr (e.seq h) (RpL.mono e r)
  | _, _, .tup h r => .tup (sqT_mono e h) (RpL.mono e r)
  | _, _, .ins h c l r => .ins (e _ _ h) c l (RpL.mono e r)
  | _, _, .dic h l r => .dic (rd_mono e h) l (RpL.mono e r)
  | _, _, .exn h o c l r => .exn (e _ _ h) (o.imp id fun ⟨dx, e1, e2⟩ => ⟨dx, e1, e _ _ e2⟩) c l (RpL.mono e r)
theorem RpL.mono {Z : Zc} {H H' : Hp} (e : Same H H') : ∀ {vs : List V} {ds : List D}, RpL Z H vs ds → RpL Z H' vs ds
  | _, _, .nil => .nil
  | _, _, .cons h r => .cons (Rp.mono e h) (RpL.mono e r)
end
section
variable {Z : Zc} {H H' : Hp}
theorem RpL.length : ∀ {vs : List V} {ds : List D}, RpL Z H vs ds → vs.length = ds.length
  | _, _, .nil => rfl
  | _, _, .cons _ r => congrArg Nat.succ r.length
theorem RpL.get : ∀ {vs : List V} {ds : List D} {i : Nat} {d : D}, RpL Z H vs ds → ds[i]? = some d → ∃ v, vs[i]? = some v ∧ Rp Z H v d
  | _, _, _, _, .nil, e => by simp at e
  | _, _, 0, _, .cons h r, e => by simp at e; subst e; exact ⟨_, rfl, h⟩
  | _, _, i + 1, _, .cons h r, e => by simpa using RpL.get (i := i) r (by simpa using e)
theorem RpL.append : ∀ {vs us : List V} {ds es : List D}, RpL Z H vs ds → RpL Z H us es → RpL Z H (vs ++ us) (ds ++ es)
  | _, _, _, _, .nil, s => s
  | _, _, _, _, .cons h r, s => .cons h (r.append s)
theorem RpL.take : ∀ {vs : List V} {ds : List D} (n : Nat), RpL Z H vs ds → RpL Z H (vs.take n) (ds.take n)
  | _, _, 0, _ => .nil
  | _, _, _ + 1, .nil => .nil
  | _, _, n + 1, .cons h r => .cons h (r.take n)
theorem RpL.drop : ∀ {vs : List V} {ds : List D} (n : Nat), RpL Z H vs ds → RpL Z H (vs.drop n) (ds.drop n)
  | _, _, 0, r => r
  | _, _, _ + 1, .nil => .nil
  | _, _, n + 1, .cons _ r => r.drop n
theorem RpL.set : ∀ {vs : List V} {ds : List D} {v : V} {d : D} (n : Nat), RpL Z H vs ds → Rp Z H v d → RpL Z H (vs.set n v) (ds.set n d)
  | _, _, _, _, _, .nil, _ => .nil
  | _, _, _, _, 0, .cons _ r, q => .cons q r
  | _, _, _, _, n + 1, .cons h r, q => .cons h (r.set n q)
theorem RpL.rep : ∀ {vs : List V} {ds : List D} (n : Nat), RpL Z H vs ds → RpL Z H (List.replicate n vs).flatten (List.replicate n ds).flatten
  | _, _, 0, _ => .nil
  | _, _, n + 1, r => by
    rw [List.replicate_succ, List.replicate_succ, List.flatten_cons, List.flatten_cons]
    exact r.append (r.rep n)
theorem rp_val {v : V} {d : D} (hs : isS d = true) (h : Rp Z H v d) : v = vOf d := by
  cases h <;> first | rfl | exact absurd hs (by simp [isS])
theorem rp_of {d : D} (hs : isS d = true) : Rp Z H (vOf d) d := by
  cases d <;> first | (constructor; done) | exact absurd hs (by simp [isS])
end
/-! worlds -/
structure Wd where
  N : Hp
  B : Hp
  H : Hp
  m : List Addr
structure Wf (w : Wd) : Prop where
  nb : Same w.N w.B
  bh : Same w.B w.H
theorem Wf.nh {w : Wd} (h : Wf w) : Same w.N w.H := h.nb.trans h.bh
structure Gr (w w' : Wd) : Prop where
  wf : Wf w'
  n : Same w.N w'.N
  b : Same w.B w'.B
  h : Same w.H w'.H
  fn : ∀ x, w'.N x ≠ none → w.N x ≠ none ∨ w.H x = none
  fb : ∀ x, w'.B x ≠ none → w.B x ≠ none ∨ w.H x = none
  m : w'.m = w.m
/-- growth of a statement: own lists may change -/
structure Gs (w w' : Wd) : Prop where
  wf : Wf w'
  n : Same w.N w'.N
  b : Same w.B w'.B
  fn : ∀ x, w'.N x ≠ none → w.N x ≠ none ∨ w.B x = none
  m : w.m <+: w'.m
  mf : ∀ a ∈ w'.m, a ∈ w.m ∨ w.B a = none
theorem Gr.refl {w : Wd} (h : Wf w) : Gr w w := ⟨h, .refl _, .refl _, .refl _, fun _ q => .inl q, fun _ q => .inl q, rfl⟩
theorem Gs.refl {w : Wd} (h : Wf w) : Gs w w := ⟨h, .refl _, .refl _, fun _ q => .inl q, List.prefix_refl _, fun _ q => .inl q⟩
theorem Gr.trans {w w1 w2 : Wd} (a : Gr w w1) (b : Gr w1 w2) : Gr w w2 where
  wf := b.wf
  n := a.n.trans b.n
  b := a.b.trans b.b
  h := a.h.trans b.h
  fn := fun x q => (b.fn x q).elim (a.fn x) fun z => .inr (a.h.free z)
  fb := fun x q => (b.fb x q).elim (a.fb x) fun z => .inr (a.h.free z)
  m := b.m.trans a.m
theorem Gs.trans {w w1 w2 : Wd} (a : Gs w w1) (b : Gs w1 w2) : Gs w w2 where
  wf := b.wf
  n := a.n.trans b.n
  b := a.b.trans b.b
  fn := fun x q => (b.fn x q).elim (a.fn x) fun z => .inr (a.b.free z)
  m := a.m.trans b.m
  mf := fun x q => (b.mf x q).elim (a.mf x) fun z => .inr (a.b.free z)
theorem Gr.gs {w w' : Wd} (hw : Wf w) (g : Gr w w') : Gs w w' := ⟨g.wf, g.n, g.b, fun x q => (g.fn x q).imp id fun z => hw.bh.free z, by rw [g.m]; exact List.prefix_refl _, fun x q => .inl (by rw [← g.m]; exact q)⟩
theorem Gs.gr {N H : Hp} {m : List Addr} {w' : Wd} (g : Gs ⟨N, H, H, m⟩ w') : Gr ⟨N, H, H, m⟩ ⟨w'.N, w'.B, w'.H, m⟩ := ⟨⟨g.wf.nb, g.wf.bh⟩, g.n, g.b, g.b.trans g.wf.bh, g.fn, fun x _ => by
  show H x ≠ none ∨ H x = none
  cases H x with
  | none => exact .inr rfl
  | some o => exact .inl (fun z => nomatch z), rfl⟩
def RV (Z : Zc) (w : Wd) : TD → V → Prop
  | (.N, d), v => Rp Z w.N v d
  | (.B, d), v => Rp Z w.B v d
  | (.T, d), v => Rp Z w.H v d
  | (.O, d), v => ∃ p vs ds, v = .ref p ∧ d = .lst ds ∧ w.H p = some (.lst vs) ∧ w.B p = none ∧ RpL Z w.N vs ds
theorem own_mono {w w' : Wd} (g : Gr w w') {p : Addr} {o : HO} (h : w.H p = some o) (b : w.B p = none) : w'.B p = none := by
  cases q : w'.B p with
  | none => rfl
  | some u =>
    rcases g.fb p (by rw [q]; exact fun z => nomatch z) with z | z
    · exact (z b).elim
    · rw [h] at z
      cases z
def RVs (Z : Zc) (w : Wd) : List TD → List V → Prop
  | [], [] => True
  | r :: rs, v :: vs => RV Z w r v ∧ RVs Z w rs vs
  | _, _ => False
theorem RV.mono {Z : Zc} {w w' : Wd} (g : Gr w w') : ∀ {r : TD} {v : V}, RV Z w r v → RV Z w' r v
  | (.N, _), _, h => Rp.mono g.n h
  | (.B, _), _, h => Rp.mono g.b h
  | (.T, _), _, h => Rp.mono g.h h
  | (.O, _), _, ⟨p, vs, ds, e, e2, h, b, r⟩ => ⟨p, vs, ds, e, e2, g.h _ _ h, own_mono g h b, RpL.mono g.n r⟩
theorem RVs.mono {Z : Zc} {w w' : Wd} (g : Gr w w') : ∀ {rs : List TD} {vs : List V}, RVs Z w rs vs → RVs Z w' rs vs
  | [], [], _ => trivial
  | _ :: _, _ :: _, ⟨h, r⟩ => ⟨RV.mono g h, RVs.mono g r⟩
  | [], _ :: _, h => h.elim
  | _ :: _, [], h => h.elim
theorem RVs.length {Z : Zc} {w : Wd} : ∀ {rs : List TD} {vs : List V}, RVs Z w rs vs → vs.length = rs.length
  | [], [], _ => rfl
  | _ :: _, _ :: _, ⟨_, r⟩ => congrArg Nat.succ r.length
  | [], _ :: _, h => h.elim
  | _ :: _, [], h => h.elim
/-- any value is at least readable in the whole heap -/
theorem RV.top {Z : Zc} {w : Wd} (hw : Wf w) : ∀ {r : TD} {v : V}, RV Z w r v → Rp Z w.H v r.2
  | (.N, _), _, h => Rp.mono hw.nh h
  | (.B, _), _, h => Rp.mono hw.bh h
  | (.T, _), _, h => h
  | (.O, _), _, ⟨p, vs, ds, e, e2, h, b, r⟩ => by
    cases e
    cases e2
    exact .lst h (RpL.mono hw.nh r)
theorem RV.sc {Z : Zc} {w : Wd} {t u : Tg} {d : D} {v : V} (hw : Wf w) (hs : isS d = true) (hu : u ≠ .O) (h : RV Z w (t, d) v) : RV Z w (u, d) v := by
  have e := rp_val hs (h.top hw)
  subst e
  cases u with
  | O => exact (hu rfl).elim
  | N => exact rp_of (Z := Z) (H := w.N) hs
  | B => exact rp_of (Z := Z) (H := w.B) hs
  | T => exact rp_of (Z := Z) (H := w.H) hs
theorem RV.nm {Z : Zc} {w : Wd} (hw : Wf w) : ∀ {r : TD} {v : V}, RV Z w r v → RV Z w (Vf.nm r) v
  | (t, .non), _, h => h.sc hw rfl (by decide)
  | (t, .bl _), _, h => h.sc hw rfl (by decide)
  | (t, .int _), _, h => h.sc hw rfl (by decide)
  | (t, .str _), _, h => h.sc hw rfl (by decide)
  | (t, .lst _), _, h => h
  | (t, .scr _), _, h => h
  | (t, .tup _), _, h => h
  | (t, .ins _ _ _), _, h => h
  | (t, .dic _ _), _, h => h
  | (t, .exn _ _ _), _, h => h
/-- the heap that a tag reads -/
def Wd.rd (w : Wd) : Tg → Hp
  | .N => w.N | .B => w.B | .T => w.H | .O => w.H
theorem RV.rp {Z : Zc} {w : Wd} {t : Tg} {d : D} {v : V} (ht : t ≠ .O) (h : RV Z w (t, d) v) : Rp Z (w.rd t) v d := by
  cases t <;> first | exact h | exact (ht rfl).elim
theorem RV.of {Z : Zc} {w : Wd} {t : Tg} {d : D} {v : V} (ht : t ≠ .O) (h : Rp Z (w.rd t) v d) : RV Z w (t, d) v := by
  cases t <;> first | exact h | exact (ht rfl).elim
theorem el_ne (t : Tg) : el t ≠ .O := by cases t <;> decide
theorem rd_le {w : Wd} (hw : Wf w) : ∀ t, Same (w.rd t) w.H
  | .N => hw.nh
  | .B => hw.bh
  | .T => .refl _
  | .O => .refl _
/-- a list's parts: where it stands, its items by the tag of an item -/
theorem RV.lst {Z : Zc} {w : Wd} (hw : Wf w) : ∀ {t : Tg} {ds : List D} {v : V}, RV Z w (t, .lst ds) v → ∃ p vs, v = .ref p ∧ w.H p = some (.lst vs) ∧ RpL Z (w.rd (el t)) vs ds
  | .N, _, _, h => by cases h with | lst h r => exact ⟨_, _, rfl, hw.nh _ _ h, r⟩
  | .B, _, _, h => by cases h with | lst h r => exact ⟨_, _, rfl, hw.bh _ _ h, r⟩
  | .T, _, _, h => by cases h with | lst h r => exact ⟨_, _, rfl, h, r⟩
  | .O, _, _, ⟨p, vs, ds, e, e2, h, b, r⟩ => by
    cases e2
    exact ⟨p, vs, e, h, r⟩
theorem RV.scr {Z : Zc} {w : Wd} (hw : Wf w) : ∀ {t : Tg} {ds : List D} {v : V}, RV Z w (t, .scr ds) v → ∃ p vs, v = .ref p ∧ SqL Z.K w.H p vs ∧ RpL Z (w.rd (el t)) vs ds
  | .N, _, _, h => by cases h with | scr h r => exact ⟨_, _, rfl, hw.nh.seq h, r⟩
  | .B, _, _, h => by cases h with | scr h r => exact ⟨_, _, rfl, hw.bh.seq h, r⟩
  | .T, _, _, h => by cases h with | scr h r => exact ⟨_, _, rfl, h, r⟩
  | .O, _, _, ⟨p, vs, ds, e, e2, h, b, r⟩ => nomatch e2
theorem RV.tup {Z : Zc} {w : Wd} (hw : Wf w) : ∀ {t : Tg} {ds : List D} {v : V}, RV Z w (t, .tup ds) v → ∃ p vs, v = .ref p ∧ SqT Z.K w.H p vs ∧ RpL Z (w.rd (el t)) vs ds
  | .N, _, _, h => by cases h with | tup h r => exact ⟨_, _, rfl, sqT_mono hw.nh h, r⟩
  | .B, _, _, h => by cases h with | tup h r => exact ⟨_, _, rfl, sqT_mono hw.bh h, r⟩
  | .T, _, _, h => by cases h with | tup h r => exact ⟨_, _, rfl, h, r⟩
  | .O, _, _, ⟨p, vs, ds, e, e2, h, b, r⟩ => nomatch e2
/-! a new object at p: it goes to the heaps that its tag says -/
def Wd.put (w : Wd) (t : Tg) (p : Addr) (o : HO) : Wd := match t with
  | .N => ⟨upd w.N p o, upd w.B p o, upd w.H p o, w.m⟩
  | .B => ⟨w.N, upd w.B p o, upd w.H p o, w.m⟩
  | _ => ⟨w.N, w.B, upd w.H p o, w.m⟩
theorem put_H {w : Wd} {t : Tg} {p : Addr} {o : HO} : (w.put t p o).H = upd w.H p o := by cases t <;> rfl
theorem same_up {H : Hp} {p : Addr} {o : HO} (h : H p = none) : Same H (upd H p o) := fun b x e => by
  rw [upd_ne (ne_of_none e h)]
  exact e
theorem same_up2 {H H' : Hp} {p : Addr} {o : HO} (h : Same H H') : Same (upd H p o) (upd H' p o) := fun b x e => by
  by_cases hb : b = p
  · subst hb
    rw [upd_same] at e ⊢
    exact e
  · rw [upd_ne hb] at e ⊢
    exact h _ _ e
theorem same_up1 {H H' : Hp} {p : Addr} {o : HO} (h : Same H H') (n : H p = none) : Same H (upd H' p o) := fun b x e => by
  rw [upd_ne (ne_of_none e n)]
  exact h _ _ e
theorem upd_some {H : Hp} {p x : Addr} {o : HO} (h : upd H p o x ≠ none) : H x ≠ none ∨ x = p := by
  by_cases hb : x = p
  · exact .inr hb
  · rw [upd_ne hb] at h
    exact .inl h
theorem Gr.put {w : Wd} (hw : Wf w) {t : Tg} {p : Addr} {o : HO} (hp : w.H p = none) : Gr w (w.put t p o) := by
  have hB := hw.bh.free hp
  have hN := hw.nb.free hB
  cases t with
  | N => exact ⟨⟨same_up2 hw.nb, same_up2 hw.bh⟩, same_up hN, same_up hB, same_up hp, fun x q => (upd_some q).imp id fun e => by rw [e]; exact hp, fun x q => (upd_some q).imp id fun e => by rw [e]; exact hp, rfl⟩
  | B => exact ⟨⟨same_up1 hw.nb hN, same_up2 hw.bh⟩, .refl _, same_up hB, same_up hp, fun x q => .inl q, fun x q => (upd_some q).imp id fun e => by rw [e]; exact hp, rfl⟩
  | T => exact ⟨⟨hw.nb, same_up1 hw.bh hB⟩, .refl _, .refl _, same_up hp, fun x q => .inl q, fun x q => .inl q, rfl⟩
  | O => exact ⟨⟨hw.nb, same_up1 hw.bh hB⟩, .refl _, .refl _, same_up hp, fun x q => .inl q, fun x q => .inl q, rfl⟩
theorem put_at {w : Wd} {t : Tg} {p : Addr} {o : HO} (ht : t ≠ .O) : (w.put t p o).rd t p = some o := by
  cases t with
  | N => exact upd_same
  | B => exact upd_same
  | T => exact upd_same
  | O => exact (ht rfl).elim
theorem rd_gr {w w' : Wd} (g : Gr w w') : ∀ t, Same (w.rd t) (w'.rd t)
  | .N => g.n
  | .B => g.b
  | .T => g.h
  | .O => g.h
/-- a new list, a new tuple, of items by a tag -/
theorem new_lst {Z : Zc} {w : Wd} (hw : Wf w) {t : Tg} (ht : t ≠ .O) {p : Addr} {vs : List V} {ds : List D} (hp : w.H p = none) (r : RpL Z (w.rd t) vs ds) : RV Z (w.put t p (.lst vs)) (t, .lst ds) (.ref p) :=
  RV.of ht (.lst (put_at ht) (RpL.mono (rd_gr (Gr.put hw hp) t) r))
theorem new_tup {Z : Zc} {w : Wd} (hw : Wf w) {t : Tg} (ht : t ≠ .O) {p : Addr} {vs : List V} {ds : List D} (hp : w.H p = none) (r : RpL Z (w.rd t) vs ds) : RV Z (w.put t p (.tup vs)) (t, .tup ds) (.ref p) :=
  RV.of ht (.tup (.of (put_at ht)) (RpL.mono (rd_gr (Gr.put hw hp) t) r))
theorem adopt {Z : Zc} {w w' : Wd} (g : Gr w w') {t : Tg} (ht : t ≠ .O) {p : Addr} {vs : List V} {ds : List D} (hp : w.H p = none) (h : w'.H p = some (.lst vs)) (hb : w'.B p = none) (r : RpL Z (w'.rd t) vs ds) :
    ∃ w2, Gr w w2 ∧ w2.H = w'.H ∧ RV Z w2 (t, .lst ds) (.ref p) := by
  have hn : w'.N p = none := g.wf.nb.free hb
  have sh : Same (upd w'.B p (.lst vs)) w'.H := fun b x e => by
    by_cases q : b = p
    · subst q
      rw [upd_same] at e
      rw [h]
      exact e
    · rw [upd_ne q] at e
      exact g.wf.bh _ _ e
  cases t with
  | O => exact (ht rfl).elim
  | T => exact ⟨w', g, rfl, Rp.lst h r⟩
  | N => exact ⟨⟨upd w'.N p (.lst vs), upd w'.B p (.lst vs), w'.H, w'.m⟩, ⟨⟨same_up2 g.wf.nb, sh⟩, same_up1 g.n (g.n.free hn), same_up1 g.b (g.b.free hb), g.h,
      fun x q => (upd_some q).elim (g.fn x) fun e => .inr (by rw [e]; exact hp), fun x q => (upd_some q).elim (g.fb x) fun e => .inr (by rw [e]; exact hp), g.m⟩, rfl, Rp.lst upd_same (RpL.mono (same_up hn) r)⟩
  | B => exact ⟨⟨w'.N, upd w'.B p (.lst vs), w'.H, w'.m⟩, ⟨⟨same_up1 g.wf.nb hn, sh⟩, g.n, same_up1 g.b (g.b.free hb), g.h,
      g.fn, fun x q => (upd_some q).elim (g.fb x) fun e => .inr (by rw [e]; exact hp), g.m⟩, rfl, Rp.lst upd_same (RpL.mono (same_up hb) r)⟩
theorem mt2_ne (t u : Tg) : mt2 t u ≠ .O := by cases t <;> cases u <;> decide
theorem mt2_l {w : Wd} (hw : Wf w) (t u : Tg) : Same (w.rd (el t)) (w.rd (mt2 (el t) u)) := by
  cases t <;> cases u <;> first | exact .refl _ | exact hw.nb | exact hw.bh | exact hw.nh
theorem mt2_r {w : Wd} (hw : Wf w) (t u : Tg) : Same (w.rd (el u)) (w.rd (mt2 t (el u))) := by
  cases t <;> cases u <;> first | exact .refl _ | exact hw.nb | exact hw.bh | exact hw.nh
/-! objects that may change -/
def HvOk (Z : Zc) (w : Wd) (v : V) : HV → Prop
  | .pu d => Rp Z w.N v d
  | .ob n => ∃ a, v = .ref a ∧ w.m[n]? = some a
def HvsOk (Z : Zc) (w : Wd) : List V → List HV → Prop
  | [], [] => True
  | v :: vs, x :: xs => HvOk Z w v x ∧ HvsOk Z w vs xs
  | _, _ => False
def MobOk (Z : Zc) (w : Wd) (a : Addr) : Mob → Prop
  | .lst xs => ∃ vs, w.H a = some (.lst vs) ∧ HvsOk Z w vs xs
  | .tup xs => ∃ vs, w.H a = some (.tup vs) ∧ HvsOk Z w vs xs
  | .ins c fs xs => ∃ C dx vs, w.H a = some (.ins C dx (fs.zip vs)) ∧ Z.cl c = some C ∧ vs.length = fs.length ∧ HvsOk Z w vs xs
  | .dic ks xs => ∃ vs, w.H a = some (.dK (ks.zip vs)) ∧ vs.length = ks.length ∧ HvsOk Z w vs xs
  | .cod q => Z.cl q = some a ∧ ∃ ps : Array Value, w.H a = some (.tbl ps) ∧ TriplesOk ps.toList ∧ ∀ (pos : Pos) (cv : Value), codeAmong pos ps.toList = some cv → ∃ c, cv = .ref c ∧ w.N c = some (LamX.CodeO c q)
structure TbOk (Z : Zc) (T : Tb) (w : Wd) : Prop where
  len : T.length = w.m.length
  nd : w.m.Nodup
  hh : ∀ a ∈ w.m, w.H a ≠ none
  at_ : ∀ (n : Nat) (M : Mob), T[n]? = some (some M) → ∃ a, w.m[n]? = some a ∧ w.B a = none ∧ MobOk Z w a M
theorem HvOk.mono {Z : Zc} {w w' : Wd} (hn : Same w.N w'.N) (hm : w.m <+: w'.m) {v : V} : ∀ {x : HV}, HvOk Z w v x → HvOk Z w' v x
  | .pu _, h => Rp.mono hn h
  | .ob _, ⟨a, e, h⟩ => ⟨a, e, by
    obtain ⟨l, hl⟩ := hm
    rw [← hl, List.getElem?_append_left (List.getElem?_eq_some_iff.mp h).1]
    exact h⟩
theorem HvsOk.mono {Z : Zc} {w w' : Wd} (hn : Same w.N w'.N) (hm : w.m <+: w'.m) : ∀ {vs : List V} {xs : List HV}, HvsOk Z w vs xs → HvsOk Z w' vs xs
  | [], [], _ => trivial
  | _ :: _, _ :: _, ⟨h, r⟩ => ⟨h.mono hn hm, r.mono hn hm⟩
  | [], _ :: _, h => h.elim
  | _ :: _, [], h => h.elim
/-- an object keeps its worth where its place in the heap does -/
theorem MobOk.mono {Z : Zc} {w w' : Wd} (hn : Same w.N w'.N) (hm : w.m <+: w'.m) {a : Addr} (hh : ∀ o, w.H a = some o → w'.H a = some o) : ∀ {M : Mob}, MobOk Z w a M → MobOk Z w' a M
  | .lst _, ⟨vs, h, r⟩ => ⟨vs, hh _ h, r.mono hn hm⟩
  | .tup _, ⟨vs, h, r⟩ => ⟨vs, hh _ h, r.mono hn hm⟩
  | .ins _ _ _, ⟨C, dx, vs, h, c, l, r⟩ => ⟨C, dx, vs, hh _ h, c, l, r.mono hn hm⟩
  | .dic _ _, ⟨vs, h, l, r⟩ => ⟨vs, hh _ h, l, r.mono hn hm⟩
  | .cod _, ⟨hc, ps, h, ht, hq⟩ => ⟨hc, ps, hh _ h, ht, fun pos cv e => let ⟨c, e1, e2⟩ := hq pos cv e; ⟨c, e1, hn _ _ e2⟩⟩
theorem TbOk.mono {Z : Zc} {T : Tb} {w w' : Wd} (g : Gr w w') (h : TbOk Z T w) : TbOk Z T w' where
  len := by rw [g.m]; exact h.len
  nd := by rw [g.m]; exact h.nd
  hh := fun a ha e => h.hh a (by rw [← g.m]; exact ha) (g.h.free e)
  at_ := fun n M e => by
    obtain ⟨a, h1, h2, h3⟩ := h.at_ n M e
    have hb : w'.B a = none := by
      have hH : ∃ o, w.H a = some o := by
        cases M with
        | lst _ => obtain ⟨vs, q, _⟩ := h3; exact ⟨_, q⟩
        | tup _ => obtain ⟨vs, q, _⟩ := h3; exact ⟨_, q⟩
        | ins _ _ _ => obtain ⟨C, dx, vs, q, _⟩ := h3; exact ⟨_, q⟩
        | dic _ _ => obtain ⟨vs, q, _⟩ := h3; exact ⟨_, q⟩
        | cod _ => obtain ⟨_, ps, q, _⟩ := h3; exact ⟨_, q⟩
      obtain ⟨o, q⟩ := hH
      exact own_mono g q h2
    exact ⟨a, by rw [g.m]; exact h1, hb, h3.mono g.n (by rw [g.m]; exact List.prefix_refl _) fun o q => g.h _ _ q⟩
/-- .. where a list that is not of the table changes -/
theorem TbOk.away {Z : Zc} {T : Tb} {w w' : Wd} (h : TbOk Z T w) (hn : Same w.N w'.N) (hm : w'.m = w.m) (hb : ∀ a ∈ w.m, w.B a = none → w'.B a = none) (hh : ∀ a ∈ w.m, ∀ o, w.H a = some o → w'.H a = some o) : TbOk Z T w' where
  len := by rw [hm]; exact h.len
  nd := by rw [hm]; exact h.nd
  hh := fun a ha e => by
    rw [hm] at ha
    cases q : w.H a with
    | none => exact h.hh a ha q
    | some o => rw [hh a ha o q] at e; cases e
  at_ := fun n M e => by
    obtain ⟨a, h1, h2, h3⟩ := h.at_ n M e
    have ha := List.mem_of_getElem? h1
    exact ⟨a, by rw [hm]; exact h1, hb a ha h2, h3.mono hn (by rw [hm]; exact List.prefix_refl _) (hh a ha)⟩
/-! frames -/
def SlOk (Z : Zc) (w : Wd) (o : Option V) : Sl → Prop
  | .un => True
  | .val t d => ∃ v, o = some v ∧ (t = .N ∧ Rp Z w.N v d ∨ t = .B ∧ Rp Z w.B v d)
  | .own ds => ∃ p vs, o = some (.ref p) ∧ w.H p = some (.lst vs) ∧ w.B p = none ∧ p ∉ w.m ∧ RpL Z w.N vs ds
  | .han n => ∃ a, o = some (.ref a) ∧ w.m[n]? = some a
  | .exo a dx C c ns ds => ∃ vs, o = some (.ref a) ∧ Z.cl c = some C ∧ w.B dx = some (.xd (ns.zip vs)) ∧ vs.length = ns.length ∧ RpL Z w.N vs ds
  | .clo f F us xs => o = some (.ref f) ∧ w.N f = some (NdefX.FnO f F) ∧ w.N F.c = some (LamX.CodeO F.c F.qual) ∧ HvsOk Z w us xs
structure Wok (Z : Zc) (env : Ev) (σ : L2.St) (w : Wd) : Prop where
  wf : Wf w
  len : σ.length = env.s.length
  sl : ∀ (i : Nat) (s : Sl), env.s[i]? = some s → ∃ o : Option V, σ[i]? = some o ∧ SlOk Z w o s
  dj : ∀ (i j : Nat) (ds es : List D) (p : Addr), i ≠ j → env.s[i]? = some (.own ds) → env.s[j]? = some (.own es) → σ[i]? = some (some (.ref p)) → σ[j]? ≠ some (some (.ref p))
  tb : TbOk Z env.t w
theorem SlOk.mono {Z : Zc} {w w' : Wd} (g : Gr w w') {o : Option V} : ∀ {s : Sl}, SlOk Z w o s → SlOk Z w' o s
  | .un, _ => trivial
  | .val _ _, ⟨v, e, h⟩ => ⟨v, e, h.imp (fun ⟨a, b⟩ => ⟨a, Rp.mono g.n b⟩) fun ⟨a, b⟩ => ⟨a, Rp.mono g.b b⟩⟩
  | .own _, ⟨p, vs, e, h, b, hm, r⟩ => ⟨p, vs, e, g.h _ _ h, own_mono g h b, by rw [g.m]; exact hm, RpL.mono g.n r⟩
  | .han _, ⟨a, e, h⟩ => ⟨a, e, by rw [g.m]; exact h⟩
  | .exo _ _ _ _ _ _, ⟨vs, e, hc, h, hl, r⟩ => ⟨vs, e, hc, g.b _ _ h, hl, RpL.mono g.n r⟩
  | .clo _ _ _ _, ⟨e, h1, h2, h3⟩ => ⟨e, g.n _ _ h1, g.n _ _ h2, h3.mono g.n (by rw [g.m]; exact List.prefix_refl _)⟩
theorem Wok.mono {Z : Zc} {env : Ev} {σ : L2.St} {w w' : Wd} (k : Wok Z env σ w) (g : Gr w w') : Wok Z env σ w' :=
  ⟨g.wf, k.len, fun i s e => let ⟨o, h, q⟩ := k.sl i s e; ⟨o, h, q.mono g⟩, k.dj, k.tb.mono g⟩
/-! readings -/
def tE (Z : Zc) (f : FE) : TE := fun σ H Q => ∃ env w r, w.H = H ∧ Wok Z env σ w ∧ f env = some r ∧ ∀ v w', Gr w w' → RV Z w' r v → Q v w'.H
def tA (Z : Zc) (f : FA) : TA := fun σ H Q => ∃ env w rs, w.H = H ∧ Wok Z env σ w ∧ f env = some rs ∧ ∀ vs w', Gr w w' → RVs Z w' rs vs → Q vs w'.H
def tT (Z : Zc) (f : FT) : TT := fun σ H Q => ∃ env w b, w.H = H ∧ Wok Z env σ w ∧ f env = some b ∧ ∀ w', Gr w w' → Q b w'.H
def OutOk (Z : Zc) (D : Ends) (w : Wd) : Out → Prop
  | .nx e => ∀ σ' w', Gs w w' → Wok Z e σ' w' → D.nx σ' w'.H
  | .rt r => ∀ v w', Gs w w' → RV Z w' r v → D.rt v w'.H
  | .bk e => ∀ σ' w', Gs w w' → Wok Z e σ' w' → D.bk σ' w'.H
  | .ct e => ∀ σ' w', Gs w w' → Wok Z e σ' w' → D.ct σ' w'.H
  | .rth x T => ∀ v w', Gs w w' → HvOk Z w' v x → TbOk Z T w' → D.rt v w'.H
def tS (Z : Zc) (f : FS) : TS := fun D σ H => ∃ env w out, w.H = H ∧ Wok Z env σ w ∧ f env = some out ∧ OutOk Z D w out
theorem OutOk.mono {Z : Zc} {D : Ends} {w w' : Wd} (g : Gs w w') : ∀ {out : Out}, OutOk Z D w out → OutOk Z D w' out
  | .nx _, h => fun σ' w2 g2 => h σ' w2 (g.trans g2)
  | .rt _, h => fun v w2 g2 => h v w2 (g.trans g2)
  | .bk _, h => fun σ' w2 g2 => h σ' w2 (g.trans g2)
  | .ct _, h => fun σ' w2 g2 => h σ' w2 (g.trans g2)
  | .rth _ _, h => fun v w2 g2 => h v w2 (g.trans g2)
section
variable {X : Cx} {Z : Zc} {e : Expr} {es : List Expr}
theorem pe_w {t t' : TE} (h : PE X e t) (hw : ∀ σ H Q, t' σ H Q → t σ H Q) : PE X e t' := ⟨fun pins s σ H Q I q => h.run pins s σ H Q I (hw _ _ _ q)⟩
theorem pt_w {t t' : TT} (h : PT X e t) (hw : ∀ σ H Q, t' σ H Q → t σ H Q) : PT X e t' := ⟨fun pins s σ H Q I q => h.run pins s σ H Q I (hw _ _ _ q)⟩
theorem pw_w {t t' : TT} (h : PW X e t) (hw : ∀ σ H Q, t' σ H Q → t σ H Q) : PW X e t' := ⟨fun wh pins s σ H Q I q => h.run wh pins s σ H Q I (hw _ _ _ q)⟩
theorem pa_w {t t' : TA} (h : PA X es t) (hw : ∀ σ H Q, t' σ H Q → t σ H Q) : PA X es t' := ⟨fun ps pins s σ H Q I q => h.run ps pins s σ H Q I (hw _ _ _ q)⟩
theorem ps_w {st : Stmt} {t t' : TS} (h : PS X st t) (hw : ∀ D σ H, t' D σ H → t D σ H) : PS X st t' := ⟨fun pins s σ H D I q => h.run pins s σ H D I (hw _ _ _ q)⟩
theorem pss_w {st : List Stmt} {t t' : TS} (h : PSs X st t) (hw : ∀ D σ H, t' D σ H → t D σ H) : PSs X st t' := ⟨fun pins s σ H D I q => h.run pins s σ H D I (hw _ _ _ q)⟩
end
end Vf
namespace Vf
open PySem L2
abbrev zx (X : Cx) (cl : Str → Option Addr) : Zc := ⟨X.K, cl⟩
structure XS (X : Cx) : Prop where
  calm : X.calm = true
  nd : X.N.Nodup
  hu : X.A.units + 65 < cLine
def lim : Nat := 1000000
theorem lim_le {n : Nat} (h : n ≤ lim) : n ≤ sizeLine := Nat.le_trans h (by decide)
theorem lim_lt {n : Nat} (h : n ≤ lim) : n < sizeLine := Nat.lt_of_le_of_lt h (by decide)
/-! what things are worth -/
def sVar (i : Nat) : FE := fun env => match env.s[i]? with
  | some (.val t d) => some (nm (t, d))
  | some (.own ds) => some (.O, .lst ds)
  | _ => none
@[simp] def sLit (d : D) : FE := fun _ => some (.N, d)
@[simp] def sOp (o : TD → TD → Option TD) (f g : FE) : FE := fun env => (f env).bind fun x => (g env).bind fun y => o x y
@[simp] def sUn (o : TD → Option TD) (f : FE) : FE := fun env => (f env).bind o
@[simp] def sNil : FA := fun _ => some []
@[simp] def sCons (f : FE) (g : FA) : FA := fun env => (f env).bind fun x => (g env).bind fun xs => some (x :: xs)
@[simp] def sB (o : List TD → Option TD) (g : FA) : FE := fun env => (g env).bind o
@[simp] def sIfe (c : FT) (f g : FE) : FE := fun env => (c env).bind fun b => if b then f env else g env
def tru (r : TD) : Option Bool := match r.2 with
  | .non => some false
  | .bl b => some b
  | .int i => some (i != 0)
  | .str s => if s.length ≤ lim then some ((s.length : Int) != 0) else none
  | .lst xs => some (!xs.isEmpty)
  | .scr xs => some (!xs.isEmpty)
  | .tup xs => some (!xs.isEmpty)
  | _ => none
@[simp] def sTru (f : FE) : FT := fun env => (f env).bind tru
def asB (r : TD) : Option Bool := match r.2 with | .bl b => some b | _ => none
@[simp] def sBl (f : FE) : FT := fun env => (f env).bind asB
@[simp] def sAndT (c d : FT) : FT := fun env => (c env).bind fun b => if b then d env else some false
@[simp] def sOrT (c d : FT) : FT := fun env => (c env).bind fun b => if b then some true else d env
@[simp] def sNotT (c : FT) : FT := fun env => (c env).map fun b => !b
/-- and, or, not as values, the left one a bool -/
@[simp] def sAndV (f g : FE) : FE := fun env => ((f env).bind asB).bind fun b => if b then g env else some (.N, .bl false)
@[simp] def sOrV (f g : FE) : FE := fun env => ((f env).bind asB).bind fun b => if b then some (.N, .bl true) else g env
@[simp] def sNotV (f : FE) : FE := fun env => ((f env).bind asB).map fun b => (.N, .bl (!b))
/-- a < b < c -/
@[simp] def sCh (o p : TD → TD → Option TD) (f g h : FE) : FE := fun env => (f env).bind fun x => (g env).bind fun y => ((o x y).bind asB).bind fun b => if b then (h env).bind fun z => p y z else some (.N, .bl false)
section
variable {Z : Zc} {w : Wd}
theorem rv_s {t : Tg} {d : D} {v : V} (hw : Wf w) (hs : isS d = true) (h : RV Z w (t, d) v) : v = vOf d := rp_val hs (h.top hw)
theorem rv_int {t : Tg} {i : Int} {v : V} (hw : Wf w) (h : RV Z w (t, .int i) v) : v = .int i := rv_s hw rfl h
theorem rv_str {t : Tg} {z : Str} {v : V} (hw : Wf w) (h : RV Z w (t, .str z) v) : v = .str z := rv_s hw rfl h
theorem rv_bl {t : Tg} {b : Bool} {v : V} (hw : Wf w) (h : RV Z w (t, .bl b) v) : v = .bl b := rv_s hw rfl h
theorem rv_non {t : Tg} {v : V} (hw : Wf w) (h : RV Z w (t, .non) v) : v = .non := rv_s hw rfl h
theorem nN (d : D) (hs : isS d = true) : RV Z w (.N, d) (vOf d) := rp_of (Z := Z) (H := w.N) hs
theorem asB_some {r : TD} {b : Bool} (h : asB r = some b) : r.2 = .bl b := by
  obtain ⟨t, d⟩ := r
  unfold asB at h
  dsimp only at h
  split at h
  · cases h; rfl
  · cases h
end
/-! ### expressions -/
section
variable {X : Cx} {cl : Str → Option Addr} {a b c : Expr} {es : List Expr} {f g h : FE} {fa : FA} {ct dt : FT} {pos : Pos}
theorem je_var (i : Nat) {x : Str} {pos : Pos} (hN : X.N[i]? = some x := by rfl) (hv : Vis X.env.scope x := by first | exact Or.inl rfl | exact Or.inr (Or.inl rfl) | exact Or.inr (Or.inr rfl))
    (hd : (x == ("__debug__" : Str)) = false := by decide) (hcd : (x == ("__classdict__" : Str)) = false := by decide) : PE X (.Name x pos) (tE (zx X cl) (sVar i)) := by
  refine pe_w (pe_var (i := i) hN hv hd hcd) fun σ H Q ⟨env, w, r, e, k, hr, q⟩ => ?_
  subst e
  unfold sVar at hr
  split at hr
  · rename_i t d he
    cases hr
    obtain ⟨o, ho, v, rfl, hv⟩ := k.sl i _ he
    refine ⟨v, ho, q v w (Gr.refl k.wf) (RV.nm k.wf ?_)⟩
    rcases hv with ⟨rfl, hv⟩ | ⟨rfl, hv⟩ <;> exact hv
  · rename_i ds he
    cases hr
    obtain ⟨o, ho, p, vs, rfl, h1, h2, _, h3⟩ := k.sl i _ he
    exact ⟨_, ho, q _ w (Gr.refl k.wf) ⟨p, vs, ds, rfl, rfl, h1, h2, h3⟩⟩
  · cases hr
theorem je_lit {d : D} {e : Expr} (h : PE X e (tC (vOf d))) (hs : isS d = true) : PE X e (tE (zx X cl) (sLit d)) :=
  pe_w h fun σ H Q ⟨env, w, r, e, k, hr, q⟩ => by
    subst e
    cases hr
    exact q _ w (Gr.refl k.wf) (nN d hs)
theorem je_int {i : Int} {j : Nat} {pos : Pos} : PE X (.Constant (.int i) j pos) (tE (zx X cl) (sLit (.int i))) := je_lit (d := .int i) pe_int rfl
theorem je_bl {b : Bool} {j : Nat} {pos : Pos} : PE X (.Constant (.bool b) j pos) (tE (zx X cl) (sLit (.bl b))) := je_lit (d := .bl b) pe_bl rfl
theorem je_non {j : Nat} {pos : Pos} : PE X (.Constant .none j pos) (tE (zx X cl) (sLit .non)) := je_lit (d := .non) pe_non rfl
theorem je_str {z : Str} {j : Nat} {pos : Pos} : PE X (.Constant (.str z) j pos) (tE (zx X cl) (sLit (.str z))) := je_lit (d := .str z) pe_str rfl
/-- a constant of the module -/
structure Gc (K : PySem.W.Frag) (mg : Str → Option Value) (cl : Str → Option Addr) (x : Str) (d : D) : Prop where
  ex : ∃ u v, mg x = some u ∧ RelV v u ∧ Rp ⟨K, cl⟩ (fun _ => none) v d
theorem same_none (H : Hp) : Same (fun _ => none) H := fun _ _ e => nomatch e
theorem je_gl {x : Str} {d : D} {pos : Pos} (G : Gc X.K X.mg cl x d) (hg : Gl X x := by rfl) (hdb : (x == ("__debug__" : Str)) = false := by decide) : PE X (.Name x pos) (tE (zx X cl) (sLit d)) := by
  obtain ⟨u, v, hm, r, hr⟩ := G.ex
  refine pe_w (pe_glob (v := v) hg hm r hdb) fun σ H Q ⟨env, w, r, e, k, hz, q⟩ => ?_
  subst e
  cases hz
  exact q v w (Gr.refl k.wf) (Rp.mono (same_none w.N) hr)
/-- operators by data -/
def rO (Z : Zc) (o : TD → TD → Option TD) : R2 := fun x y H Q => ∃ w rx ry z, w.H = H ∧ Wf w ∧ RV Z w rx x ∧ RV Z w ry y ∧ o rx ry = some z ∧ ∀ v w', Gr w w' → RV Z w' z v → Q v w'.H
theorem sOp_rd {o : TD → TD → Option TD} {σ : L2.St} {H : Hp} {Q : VK} {Z : Zc} (hh : tE Z (sOp o f g) σ H Q) : tOp (rO Z o) (tE Z f) (tE Z g) σ H Q := by
  obtain ⟨env, w, r, e, k, hr, q⟩ := hh
  subst e
  obtain ⟨x, hx, hr⟩ := Option.bind_eq_some_iff.mp hr
  obtain ⟨y, hy, hr⟩ := Option.bind_eq_some_iff.mp hr
  refine ⟨env, w, x, rfl, k, hx, fun v w1 g1 r1 => ⟨env, w1, y, rfl, k.mono g1, hy, fun u w2 g2 r2 => ?_⟩⟩
  exact ⟨w2, x, y, r, rfl, g2.wf, r1.mono g2, r2, hr, fun v' w3 g3 r3 => q v' w3 ((g1.trans g2).trans g3) r3⟩
theorem je_op {op : Operator} {o : TD → TD → Option TD} (ho : OpR X (binaryOp op) (rO (zx X cl) o)) (ha : PE X a (tE (zx X cl) f)) (hb : PE X b (tE (zx X cl) g)) : PE X (.BinOp a op b pos) (tE (zx X cl) (sOp o f g)) :=
  pe_w (pe_op ho ha hb) fun _ _ _ hh => sOp_rd hh
theorem je_cmp {op : CmpOp} {o : TD → TD → Option TD} (ho : OpR X (compareOp op) (rO (zx X cl) o)) (ha : PE X a (tE (zx X cl) f)) (hb : PE X b (tE (zx X cl) g)) (hm : behindInMarks op b = false := by first | exact nomark _ | rfl) : PE X (.Compare a [op] [b] pos) (tE (zx X cl) (sOp o f g)) :=
  pe_w (pe_cmpR ho ha hb hm) fun _ _ _ hh => sOp_rd hh
/-- a value that is a bool, as a test -/
theorem sBl_rd {σ : L2.St} {H : Hp} {Q : Bool → Hp → Prop} {Z : Zc} (hh : tT Z (sBl f) σ H Q) : tE Z f σ H fun x H' => ∃ k, x = .bl k ∧ Q k H' := by
  obtain ⟨env, w, r, e, k, hr, q⟩ := hh
  subst e
  obtain ⟨x, hx, hr⟩ := Option.bind_eq_some_iff.mp hr
  refine ⟨env, w, x, rfl, k, hx, fun v w1 g1 r1 => ⟨r, ?_, q w1 g1⟩⟩
  obtain ⟨t, d⟩ := x
  cases asB_some hr
  exact rv_bl g1.wf r1
theorem jt_cmp {op : CmpOp} {o : TD → TD → Option TD} (ho : OpR X (compareOp op) (rO (zx X cl) o)) (ha : PE X a (tE (zx X cl) f)) (hb : PE X b (tE (zx X cl) g)) (hm : behindInMarks op b = false := by first | exact nomark _ | rfl) : PT X (.Compare a [op] [b] pos) (tT (zx X cl) (sBl (sOp o f g))) :=
  pt_w (pt_cmpR ho ha hb hm) fun σ H Q hh => sOp_rd (Q := fun x H' => ∃ k, x = .bl k ∧ Q k H') (sBl_rd hh)
theorem tru_v {r : TD} {v : V} {w : Wd} {k : Bool} {Z : Zc} (hw : Wf w) (hr : tru r = some k) (h : RV Z w r v) : TruV Z.K v w.H k := by
  obtain ⟨t, d⟩ := r
  unfold tru at hr
  dsimp only at hr
  split at hr
  · cases hr; rw [rv_non hw h]; exact rfl
  · cases hr; rw [rv_bl hw h]; exact rfl
  · cases hr; rw [rv_int hw h]; exact rfl
  · split at hr
    · rename_i hl
      cases hr; rw [rv_str hw h]; exact ⟨lim_le hl, rfl⟩
    · cases hr
  · cases hr
    obtain ⟨p, vs, rfl, h1, h2⟩ := h.lst hw
    refine .inl ⟨vs, SqL.of h1, ?_⟩
    cases h2 <;> rfl
  · cases hr
    obtain ⟨p, vs, rfl, h1, h2⟩ := h.scr hw
    refine .inl ⟨vs, h1, ?_⟩
    cases h2 <;> rfl
  · cases hr
    obtain ⟨p, vs, rfl, h1, h2⟩ := h.tup hw
    refine .inr (.inl ⟨vs, h1, ?_⟩)
    cases h2 <;> rfl
  · cases hr
/-- any value by its truth, as a test -/
theorem jt_v (ha : PE X a (tE (zx X cl) f)) (he : ∀ whole, isTrue a X.env whole = (do let v ← whole; standAt a.pos; holding [v] (truthy v)) := by intro _; rfl) : PT X a (tT (zx X cl) (sTru f)) := by
  refine pt_w (pt_truth ha he) fun σ H Q ⟨env, w, r, e, k, hr, q⟩ => ?_
  subst e
  obtain ⟨x, hx, hr⟩ := Option.bind_eq_some_iff.mp hr
  exact ⟨env, w, x, rfl, k, hx, fun v w1 g1 r1 => ⟨r, tru_v g1.wf hr r1, q w1 g1⟩⟩
theorem jt_not (ha : PT X a (tT (zx X cl) ct)) : PT X (.UnaryOp .Not a pos) (tT (zx X cl) (sNotT ct)) := by
  refine pt_w (pt_not ha) fun σ H Q ⟨env, w, r, e, k, hr, q⟩ => ?_
  subst e
  obtain ⟨x, hx, hr⟩ := Option.map_eq_some_iff.mp hr
  subst hr
  exact ⟨env, w, x, rfl, k, hx, fun w1 g1 => q w1 g1⟩
theorem jw_and1 (ha : PT X a (tT (zx X cl) ct)) : PW X (.BoolOp .And [a] pos) (tT (zx X cl) ct) := pw_and1 ha
theorem jw_or1 (ha : PT X a (tT (zx X cl) ct)) : PW X (.BoolOp .Or [a] pos) (tT (zx X cl) ct) := pw_or1 ha
theorem jw_and (ha : PT X a (tT (zx X cl) ct)) (hb : PW X (.BoolOp .And (b :: es) pos) (tT (zx X cl) dt)) : PW X (.BoolOp .And (a :: b :: es) pos) (tT (zx X cl) (sAndT ct dt)) := by
  refine pw_w (pw_and ha hb) fun σ H Q ⟨env, w, r, e, k, hr, q⟩ => ?_
  subst e
  obtain ⟨x, hx, hr⟩ := Option.bind_eq_some_iff.mp hr
  refine ⟨env, w, x, rfl, k, hx, fun w1 g1 => ?_⟩
  cases x with
  | true => exact ⟨env, w1, r, rfl, k.mono g1, hr, fun w2 g2 => q w2 (g1.trans g2)⟩
  | false =>
    cases hr
    exact q w1 g1
theorem jw_or (ha : PT X a (tT (zx X cl) ct)) (hb : PW X (.BoolOp .Or (b :: es) pos) (tT (zx X cl) dt)) : PW X (.BoolOp .Or (a :: b :: es) pos) (tT (zx X cl) (sOrT ct dt)) := by
  refine pw_w (pw_or ha hb) fun σ H Q ⟨env, w, r, e, k, hr, q⟩ => ?_
  subst e
  obtain ⟨x, hx, hr⟩ := Option.bind_eq_some_iff.mp hr
  refine ⟨env, w, x, rfl, k, hx, fun w1 g1 => ?_⟩
  cases x with
  | false => exact ⟨env, w1, r, rfl, k.mono g1, hr, fun w2 g2 => q w2 (g1.trans g2)⟩
  | true =>
    cases hr
    exact q w1 g1
theorem jt_w (ha : PW X a (tT (zx X cl) ct)) : PT X a (tT (zx X cl) ct) := ha.pt
theorem je_and1 (ha : PE X a (tE (zx X cl) f)) : PE X (.BoolOp .And [a] pos) (tE (zx X cl) f) := pe_one ha
theorem je_and (ha : PE X a (tE (zx X cl) f)) (hb : PE X (.BoolOp .And (b :: es) pos) (tE (zx X cl) g)) : PE X (.BoolOp .And (a :: b :: es) pos) (tE (zx X cl) (sAndV f g)) := by
  refine pe_w (pe_and ha hb) fun σ H Q ⟨env, w, r, e, k, hr, q⟩ => ?_
  subst e
  obtain ⟨x, hx, hr⟩ := Option.bind_eq_some_iff.mp hr
  obtain ⟨y, hy, hx⟩ := Option.bind_eq_some_iff.mp hx
  refine ⟨env, w, y, rfl, k, hy, fun v w1 g1 r1 => ⟨x, ?_, ?_⟩⟩
  · obtain ⟨t, d⟩ := y
    cases asB_some hx
    exact rv_bl g1.wf r1
  · cases x with
    | true => exact ⟨env, w1, r, rfl, k.mono g1, hr, fun v w2 g2 r2 => q v w2 (g1.trans g2) r2⟩
    | false =>
      cases hr
      exact q _ w1 g1 (nN (.bl false) rfl)
theorem je_not (ha : PE X a (tE (zx X cl) f)) : PE X (.UnaryOp .Not a pos) (tE (zx X cl) (sNotV f)) := by
  refine pe_w (pe_not ha) fun σ H Q ⟨env, w, r, e, k, hr, q⟩ => ?_
  subst e
  obtain ⟨x, hx, hr⟩ := Option.map_eq_some_iff.mp hr
  obtain ⟨y, hy, hx⟩ := Option.bind_eq_some_iff.mp hx
  subst hr
  refine ⟨env, w, y, rfl, k, hy, fun v w1 g1 r1 => ⟨x, ?_, q _ w1 g1 (nN (.bl (!x)) rfl)⟩⟩
  obtain ⟨t, d⟩ := y
  cases asB_some hx
  exact rv_bl g1.wf r1
/-! arguments -/
theorem ja_nil : PA X [] (tA (zx X cl) sNil) := by
  refine pa_w pa_nil fun σ H Q ⟨env, w, r, e, k, hr, q⟩ => ?_
  subst e
  cases hr
  exact q [] w (Gr.refl k.wf) trivial
theorem ja_cons (ha : PE X a (tE (zx X cl) f)) (hr : PA X es (tA (zx X cl) fa)) (hs : starEach (a :: es) X.env = (false, eval a X.env) :: starEach es X.env := by rfl) : PA X (a :: es) (tA (zx X cl) (sCons f fa)) := by
  refine pa_w (pa_cons ha hr hs) fun σ H Q ⟨env, w, r, e, k, hr, q⟩ => ?_
  subst e
  obtain ⟨x, hx, hr⟩ := Option.bind_eq_some_iff.mp hr
  obtain ⟨xs, hxs, hr⟩ := Option.bind_eq_some_iff.mp hr
  cases hr
  exact ⟨env, w, x, rfl, k, hx, fun v w1 g1 r1 => ⟨env, w1, xs, rfl, k.mono g1, hxs, fun vs w2 g2 r2 => q _ w2 (g1.trans g2) ⟨r1.mono g2, r2⟩⟩⟩
/-- built-ins by data -/
def rC (Z : Zc) (o : List TD → Option TD) : List V → Hp → VK → Prop := fun xs H Q => ∃ w rs z, w.H = H ∧ Wf w ∧ RVs Z w rs xs ∧ o rs = some z ∧ ∀ v w', Gr w w' → RV Z w' z v → Q v w'.H
theorem sB_rd {o : List TD → Option TD} {σ : L2.St} {H : Hp} {Q : VK} {Z : Zc} (hh : tE Z (sB o fa) σ H Q) : tA Z fa σ H fun xs H1 => rC Z o xs H1 Q := by
  obtain ⟨env, w, r, e, k, hr, q⟩ := hh
  subst e
  obtain ⟨x, hx, hr⟩ := Option.bind_eq_some_iff.mp hr
  exact ⟨env, w, x, rfl, k, hx, fun vs w1 g1 r1 => ⟨w1, x, r, rfl, g1.wf, r1, hr, fun v w2 g2 r2 => q v w2 (g1.trans g2) r2⟩⟩
theorem je_b {id : String} {x : Str} {p : Pos} {o : List TD → Option TD} (hc : CallR X (.builtin id) (rC (zx X cl) o)) (hm : X.mg x = none) (hv : bootBuiltins x = some (.builtin id)) (ha : PA X (a :: es) (tA (zx X cl) fa)) (hg : Gl X x := by rfl)
    (hn : x ≠ "__name__" := by decide) (hdb : (x == ("__debug__" : Str)) = false := by decide) (he : starEach (a :: es) X.env = (false, eval a X.env) :: starEach es X.env := by rfl) (hpl : (backTo pos (starEach es X.env)).any (·.1) = false := by rfl) :
    PE X (.Call (.Name x p) (a :: es) [] pos) (tE (zx X cl) (sB o fa)) := pe_w (pe_callB hc hg hm hv ha hn hdb he hpl) fun _ _ _ hh => sB_rd hh
theorem je_ty {T : String} {x : Str} {p : Pos} {o : List TD → Option TD} (hc : CallR X (.type T) (rC (zx X cl) o)) (hm : X.mg x = none) (hv : bootBuiltins x = some (.type T)) (ha : PA X (a :: es) (tA (zx X cl) fa)) (hg : Gl X x := by rfl)
    (hn : x ≠ "__name__" := by decide) (hdb : (x == ("__debug__" : Str)) = false := by decide) (he : starEach (a :: es) X.env = (false, eval a X.env) :: starEach es X.env := by rfl) (hpl : (backTo pos (starEach es X.env)).any (·.1) = false := by rfl) :
    PE X (.Call (.Name x p) (a :: es) [] pos) (tE (zx X cl) (sB o fa)) := pe_w (pe_callTy hc hg hm hv ha hn hdb he hpl) fun _ _ _ hh => sB_rd hh
end
end Vf
namespace Vf
open PySem L2
/-! ### operators, by data -/
def bitsOk (i j : Int) : Bool := decide (Builtin.Int.intBits i + Builtin.Int.intBits j ≤ 134217728)
def cell (t : Tg) : Tg := match t with | .O => .T | t => t
/-- the tag of a thing that holds these -/
def tagL : List TD → Tg
  | [] => .N
  | r :: rs => mt2 (cell r.1) (tagL rs)
def catL (a b : TD) : Option (Tg × List D) := match a.2, b.2 with
  | .lst xs, .lst ys => if xs.length + ys.length ≤ lim then some (mt2 (el a.1) (el b.1), xs ++ ys) else none
  | _, _ => none
def oAdd (a b : TD) : Option TD := match a.2, b.2 with
  | .int i, .int j => some (.N, .int (i + j))
  | .str x, .str y => if x.length + y.length ≤ lim then some (.N, .str (x ++ y)) else none
  | .tup xs, .tup ys => if xs.length + ys.length ≤ lim then some (mt2 (el a.1) (el b.1), .tup (xs ++ ys)) else none
  | .lst xs, .lst ys => if xs.length + ys.length ≤ lim then some (mt2 (el a.1) (el b.1), .lst (xs ++ ys)) else none
  | _, _ => none
def oSub (a b : TD) : Option TD := match a.2, b.2 with
  | .int i, .int j => some (.N, .int (i - j))
  | _, _ => none
def repS (z : Str) (n : Nat) : Str := ⟨(List.replicate n z.cps.toList).flatten.toArray⟩
noncomputable def oMul (a b : TD) : Option TD := match a.2, b.2 with
  | .int i, .int j => cif (bitsOk i j = true) (some (.N, .int (i * j))) none
  | .lst xs, .int k => cif (k.natAbs ≤ lim ∧ xs.length * k.toNat ≤ lim) (some (el a.1, .lst (List.replicate k.toNat xs).flatten)) none
  | .str z, .int k => cif (0 ≤ k ∧ k.natAbs ≤ lim ∧ z.length * k.toNat ≤ lim) (some (.N, .str (repS z k.toNat))) none
  | _, _ => none
noncomputable def oFd (a b : TD) : Option TD := match a.2, b.2 with
  | .int i, .int j => cif (0 < j ∧ j < 18446744073709551616) (some (.N, .int (i / j))) none
  | _, _ => none
noncomputable def oMod (a b : TD) : Option TD := match a.2, b.2 with
  | .int i, .int j => cif (0 < j) (some (.N, .int (i % j))) none
  | _, _ => none
noncomputable def oPow (a b : TD) : Option TD := match a.2, b.2 with
  | .int i, .int j => cif (0 ≤ j ∧ j ≤ 1000000 ∧ i.natAbs < 18446744073709551616) (some (.N, .int (i ^ j.toNat))) none
  | _, _ => none
mutual
def py : D → PyData
  | .non => .none | .bl b => .bool b | .int i => .int i | .str s => .str s
  | .lst xs => .list (pyL xs) | .scr xs => .list (pyL xs) | .tup xs => .tuple (pyL xs)
  | .ins _ _ _ => .none | .dic _ _ => .none | .exn _ _ _ => .none
def pyL : List D → List PyData
  | [] => []
  | x :: xs => py x :: pyL xs
end
mutual
def pyOk : D → Bool
  | .non => true | .bl _ => true | .int _ => true | .str _ => true
  | .lst xs => pyOkL xs | .scr xs => pyOkL xs | .tup xs => pyOkL xs
  | .ins _ _ _ => false | .dic _ _ => false | .exn _ _ _ => false
def pyOkL : List D → Bool
  | [] => true
  | x :: xs => pyOk x && pyOkL xs
end
def eqD (a b : D) : Option Bool := match a, b with
  | .int i, .int j => some (decide (i = j))
  | .str x, .str y => some (decide (x = y))
  | .bl x, .bl y => some (decide (x = y))
  | .non, .non => some true
  | .int _, .non => some false
  | .non, .int _ => some false
  | .str _, .non => some false
  | .non, .str _ => some false
  | .int _, .str _ => some false
  | .str _, .int _ => some false
  | a, b => if pyOk a && pyOk b && SeqAt.shaped (py a) && SeqAt.shaped (py b) then some (PyData.eqv (py a) (py b)) else none
def oEq (a b : TD) : Option TD := (eqD a.2 b.2).map fun k => (.N, .bl k)
def oNe (a b : TD) : Option TD := (eqD a.2 b.2).map fun k => (.N, .bl (!k))
noncomputable def oLt (a b : TD) : Option TD := match a.2, b.2 with | .int i, .int j => some (.N, .bl (cdec (i < j))) | _, _ => none
noncomputable def oGt (a b : TD) : Option TD := match a.2, b.2 with | .int i, .int j => some (.N, .bl (cdec (j < i))) | _, _ => none
noncomputable def oGe (a b : TD) : Option TD := match a.2, b.2 with | .int i, .int j => some (.N, .bl (cdec (j ≤ i))) | _, _ => none
def eqS (x y : D) : Bool := eqV (vOf x) (vOf y)
/-- a dict's key -/
def keyD : D → Option Key
  | .int i => some (.inl i)
  | .str s => some (.inr s)
  | _ => none
/-- what stands at a key -/
def dgt {α : Type} : List Key → List α → Key → Option α
  | k :: ks, x :: xs, q => if k = q then some x else dgt ks xs q
  | _, _, _ => none
theorem dgt_val : ∀ (ks : List Key) (xs : List L2.V) (q : Key), valV (ks.zip xs) q = dgt ks xs q
  | [], _, _ => rfl
  | _ :: _, [], _ => rfl
  | k :: ks, x :: xs, q => by
    unfold dgt
    by_cases e : k = q
    · rw [if_pos e]; exact valV_pos (p := (k, x)) e
    · rw [if_neg e, ← dgt_val ks xs q]; exact valV_neg (p := (k, x)) e
theorem dgt_rp {Z : Zc} {H : Hp} : ∀ {ks : List Key} {vs : List V} {ds : List D} {q : Key} {d : D}, RpL Z H vs ds → dgt ks ds q = some d → ∃ v, dgt ks vs q = some v ∧ Rp Z H v d
  | [], _, _, _, _, _, h => by cases h
  | _ :: _, _, _, _, _, .nil, h => by cases h
  | k :: ks, _, _, q, d, .cons h r, e => by
    unfold dgt at e ⊢
    by_cases c : k = q
    · rw [if_pos c] at e ⊢; cases e; exact ⟨_, rfl, h⟩
    · rw [if_neg c] at e ⊢; exact dgt_rp r e
theorem keyD_v {d : D} {k : Key} (h : keyD d = some k) : isS d = true ∧ vOf d = kV k := by
  cases d <;> cases h <;> exact ⟨rfl, rfl⟩
def isD (a b : D) : Option Bool := match b with
  | .non => match a with | .non => some true | _ => some false
  | .bl y => match a with | .bl x => some (decide (x = y)) | _ => none
  | _ => none
def oIs (a b : TD) : Option TD := (isD a.2 b.2).map fun k => (.N, .bl k)
def oIsN (a b : TD) : Option TD := (isD a.2 b.2).map fun k => (.N, .bl (!k))
def ixD (a : TD) (i : Int) : Option TD := match a.2 with
  | .lst xs => (atI xs i).map fun d => nm (el a.1, d)
  | .scr xs => (atI xs i).map fun d => nm (el a.1, d)
  | .tup xs => (atI xs i).map fun d => nm (el a.1, d)
  | .str z => if z.length ≤ lim then (atI z.cps.toList i).map fun c => (.N, .str ⟨#[c]⟩) else none
  | .dic ks ds => (dgt ks ds (.inl i)).map fun d => nm (el a.1, d)
  | _ => none
def ixS (a : TD) (z : Str) : Option TD := match a.2 with
  | .dic ks ds => (dgt ks ds (.inr z)).map fun d => nm (el a.1, d)
  | _ => none
def oIx (a b : TD) : Option TD := match b.2 with | .int i => ixD a i | .str z => ixS a z | _ => none
section
variable {Z : Zc} {w : Wd}
theorem fin1 {Q : VK} {d : D} {H : Hp} (hw : Wf w) (e : w.H = H) (hs : isS d = true) (q : ∀ v w', Gr w w' → RV Z w' (.N, d) v → Q v w'.H) : Q (vOf d) H := by
  subst e
  exact q _ w (Gr.refl hw) (nN d hs)
theorem tagL_ne : ∀ rs, tagL rs ≠ .O
  | [] => by decide
  | r :: rs => mt2_ne _ _
theorem cell_rv {t : Tg} {d : D} {v : V} (hw : Wf w) (h : RV Z w (t, d) v) : RV Z w (cell t, d) v := by
  cases t with
  | O => exact h.top hw
  | N => exact h
  | B => exact h
  | T => exact h
theorem rvs_items (hw : Wf w) : ∀ {rs : List TD} {vs : List V}, RVs Z w rs vs → RpL Z (w.rd (tagL rs)) vs (rs.map (·.2))
  | [], [], _ => .nil
  | (t, d) :: rs, v :: vs, ⟨h, r⟩ => by
    have h1 := cell_rv hw h
    have hc : cell t ≠ .O := by cases t <;> decide
    have h2 := RV.rp hc h1
    refine .cons (Rp.mono ?_ h2) (RpL.mono ?_ (rvs_items hw r))
    · show Same (w.rd (cell t)) (w.rd (mt2 (cell t) (tagL rs)))
      cases t <;> cases tagL rs <;> first | exact .refl _ | exact hw.nb | exact hw.bh | exact hw.nh
    · show Same (w.rd (tagL rs)) (w.rd (mt2 (cell t) (tagL rs)))
      have := tagL_ne rs
      cases h : tagL rs <;> cases t <;> first | exact .refl _ | exact hw.nb | exact hw.bh | exact hw.nh | exact (this h).elim
  | [], _ :: _, h => h.elim
  | _ :: _, [], h => h.elim
end
section
variable {X : Cx} {cl : Str → Option Addr}
theorem or_add : OpR X (binaryOp .Add) (rO (zx X cl) oAdd) := by
  rintro pins s σ H x y v u Q I rx ry ⟨w, ⟨t, d⟩, ⟨t', d'⟩, z, eH, hw, ha, hb, ho, q⟩
  unfold oAdd at ho
  dsimp only at ho
  split at ho
  · cases ho
    exact op_add pins s σ H x y v u Q I rx ry ⟨_, _, rv_int hw ha, rv_int hw hb, fin1 hw eH rfl q⟩
  · split at ho
    · rename_i hl
      cases ho
      exact op_add_str pins s σ H x y v u Q I rx ry ⟨_, _, rv_str hw ha, rv_str hw hb, lim_le hl, fin1 hw eH rfl q⟩
    · cases ho
  · split at ho
    · rename_i xs ys hl
      cases ho
      have ha' := ha
      have hb' := hb
      obtain ⟨p, vs, rfl, h1, h2⟩ := ha.tup hw
      obtain ⟨p', vs', rfl, h1', h2'⟩ := hb.tup hw
      subst eH
      refine op_catA pins s σ w.H _ _ v u Q I rx ry ⟨_, _, _, _, rfl, rfl, h1, h1', lim_le (by rw [h2.length, h2'.length]; exact hl), fun e => ?_, fun _ e => ?_, fun n1 n2 np hnp => ?_⟩
      · subst e
        cases h2
        rw [List.nil_append] at q
        refine q _ w (Gr.refl hw) (RV.of (mt2_ne _ _) (Rp.mono (mt2_r hw (el t) t') ?_))
        cases t' <;> first | exact hb' | (obtain ⟨_, _, _, _, z, _⟩ := hb'; cases z)
      · subst e
        cases h2'
        rw [List.append_nil] at q
        refine q _ w (Gr.refl hw) (RV.of (mt2_ne _ _) (Rp.mono (mt2_l hw t (el t')) ?_))
        cases t <;> first | exact ha' | (obtain ⟨_, _, _, _, z, _⟩ := ha'; cases z)
      · have g := Gr.put hw (t := mt2 (el t) (el t')) (o := .tup (vs ++ vs')) hnp
        have := q _ _ g (new_tup hw (mt2_ne _ _) hnp ((RpL.mono (mt2_l hw t (el t')) h2).append (RpL.mono (mt2_r hw (el t) t') h2')))
        rw [put_H] at this
        exact this
    · cases ho
  · split at ho
    · rename_i xs ys hl
      cases ho
      obtain ⟨p, vs, rfl, h1, h2⟩ := ha.lst hw
      obtain ⟨p', vs', rfl, h1', h2'⟩ := hb.lst hw
      subst eH
      refine op_cat pins s σ w.H _ _ v u Q I rx ry ⟨_, _, _, _, rfl, rfl, h1, h1', lim_le (by rw [h2.length, h2'.length]; exact hl), fun np hnp => ?_⟩
      have g := Gr.put hw (t := mt2 (el t) (el t')) (o := .lst (vs ++ vs')) hnp
      have := q _ _ g (new_lst hw (mt2_ne _ _) hnp ((RpL.mono (mt2_l hw t (el t')) h2).append (RpL.mono (mt2_r hw (el t) t') h2')))
      rw [put_H] at this
      exact this
    · cases ho
  · cases ho
theorem or_sub : OpR X (binaryOp .Sub) (rO (zx X cl) oSub) := by
  rintro pins s σ H x y v u Q I rx ry ⟨w, ⟨t, d⟩, ⟨t', d'⟩, z, eH, hw, ha, hb, ho, q⟩
  unfold oSub at ho
  dsimp only at ho
  split at ho
  · cases ho
    exact op_sub pins s σ H x y v u Q I rx ry ⟨_, _, rv_int hw ha, rv_int hw hb, fin1 hw eH rfl q⟩
  · cases ho
theorem bitsOk_mul {i j : Int} (h : bitsOk i j = true) : IntMulOk i j := IntMulOk.of_le (Nat.le_refl _) (Nat.le_refl _) (of_decide_eq_true h)
theorem or_mul : OpR X (binaryOp .Mult) (rO (zx X cl) oMul) := by
  rintro pins s σ H x y v u Q I rx ry ⟨w, ⟨t, d⟩, ⟨t', d'⟩, z, eH, hw, ha, hb, ho, q⟩
  unfold oMul at ho
  dsimp only at ho
  split at ho
  · unfold cif at ho
    split at ho
    · rename_i i j hl
      cases ho
      have e1 := rv_int hw ha
      have e2 := rv_int hw hb
      subst e1 e2
      obtain ⟨tx, rfl⟩ := rx
      obtain ⟨ty, rfl⟩ := ry
      exact PyProof.Rows.mul_int ⟨.int (i * j), H, I.tok _, ⟨_, rfl⟩, fin1 hw eH rfl q⟩ (bitsOk_mul hl)
    · cases ho
  · unfold cif at ho
    split at ho
    · rename_i xs k hl
      cases ho
      obtain ⟨p, vs, rfl, h1, h2⟩ := ha.lst hw
      have e2 := rv_int hw hb
      subst eH e2
      have hk : k.natAbs ≤ 1000000 := hl.1
      refine op_rep pins s σ w.H _ _ v u Q I rx ry ⟨_, _, _, rfl, rfl, h1, by omega, by omega, lim_le (by rw [h2.length]; exact hl.2), fun np hnp => ?_⟩
      have g := Gr.put hw (t := el t) (o := .lst (List.replicate k.toNat vs).flatten) hnp
      have := q _ _ g (new_lst hw (el_ne _) hnp (h2.rep _))
      rw [put_H] at this
      exact this
    · cases ho
  · unfold cif at ho
    split at ho
    · rename_i z0 k hl
      cases ho
      have e1 := rv_str hw ha
      have e2 := rv_int hw hb
      subst e1 e2
      obtain ⟨tx, rfl⟩ := rx
      obtain ⟨ty, rfl⟩ := ry
      have hz : sizeLine = 16777216 := sizeLine_eq
      have l1 : k.natAbs ≤ 1000000 := hl.2.1
      have l2 : z0.length * k.toNat ≤ 1000000 := hl.2.2
      have sz : ∀ (m : Nat), (List.foldl (fun x1 x2 => x1 ++ x2) #[] (List.replicate m z0.cps)) = (List.replicate m z0.cps.toList).flatten.toArray := fun m => by
        have aux : ∀ (l : List (Array Nat)) (acc : Array Nat), l.foldl (fun x1 x2 => x1 ++ x2) acc = acc ++ (l.map Array.toList).flatten.toArray := by
          intro l
          induction l with
          | nil => intro acc; simp
          | cons b r ih => intro acc; rw [List.foldl_cons, ih]; apply Array.toList_inj.mp; simp
        rw [aux]
        simp
      refine PySem.P.mul_str ?_ ?_ ?_ ?_
      · rw [decide_eq_false (by omega), decide_eq_false (by omega)] <;> rfl
      · intro h1 h2 h3
        have hk : (k.toNat : Int) = k := by omega
        have h4 : ((2 ^ 63 - 1) / k : Int) < (z0.length : Int) := h3
        have h5 := (Int.ediv_lt_iff_lt_mul (by omega : (0 : Int) < k)).mp h4
        rw [← hk] at h5
        have h6 : ((z0.length : Int) * (k.toNat : Int)) = ((z0.length * k.toNat : Nat) : Int) := by rw [Int.natCast_mul]
        rw [h6] at h5
        omega
      · intro h1 h2
        show decide (sizeLine < z0.length * k.toNat) = false
        exact decide_eq_false (by omega)
      · by_cases hk : k < 1
        · rw [if_pos hk]
          have e0 : k.toNat = 0 := by omega
          refine ⟨by decide, .str (repS z0 k.toNat), H, I.tok _, ⟨s.toks, ?_⟩, fin1 hw eH rfl q⟩
          rw [e0]
          rfl
        · rw [if_neg hk]
          by_cases hc : (k == 1 || z0.length == 0) = true
          · rw [if_pos hc]
            refine ⟨.str (repS z0 k.toNat), H, I, ⟨tx, ?_⟩, fin1 hw eH rfl q⟩
            have : repS z0 k.toNat = z0 := by
              simp only [Bool.or_eq_true, beq_iff_eq] at hc
              rcases hc with hc | hc
              · subst hc
                simp [repS]
              · have e0 : z0.cps = #[] := Array.eq_empty_of_size_eq_zero hc
                obtain ⟨c0⟩ := z0
                simp only at e0
                subst e0
                unfold repS
                have : (List.replicate k.toNat ([] : List Nat)).flatten = [] := by simp
                simp [this]
            rw [this]
          · rw [if_neg hc]
            refine ⟨?_, .str (repS z0 k.toNat), H, I.tok _, ⟨s.toks, ?_⟩, fin1 hw eH rfl q⟩
            · rw [sz]
              show ((List.replicate k.toNat z0.cps.toList).flatten.toArray).size ≤ sizeLine
              have : ((List.replicate k.toNat z0.cps.toList).flatten.toArray).size = k.toNat * z0.length := by
                simp [Str.length]
              rw [this, Nat.mul_comm]
              omega
            · rw [sz]
              rfl
    · cases ho
  · cases ho
theorem or_fd : OpR X (binaryOp .FloorDiv) (rO (zx X cl) oFd) := by
  rintro pins s σ H x y v u Q I rx ry ⟨w, ⟨t, d⟩, ⟨t', d'⟩, z, eH, hw, ha, hb, ho, q⟩
  unfold oFd at ho
  dsimp only at ho
  split at ho
  · unfold cif at ho
    split at ho
    · rename_i i j hl
      cases ho
      exact op_fdivW pins s σ H x y v u Q I rx ry ⟨_, _, rv_int hw ha, rv_int hw hb, wide_div (b := 64) hl.1 (by omega) (by decide) (by decide), fin1 hw eH rfl q⟩
    · cases ho
  · cases ho
theorem or_mod : OpR X (binaryOp .Mod) (rO (zx X cl) oMod) := by
  rintro pins s σ H x y v u Q I rx ry ⟨w, ⟨t, d⟩, ⟨t', d'⟩, z, eH, hw, ha, hb, ho, q⟩
  unfold oMod at ho
  dsimp only at ho
  split at ho
  · unfold cif at ho
    split at ho
    · rename_i i j hl
      cases ho
      exact op_mod pins s σ H x y v u Q I rx ry ⟨_, _, rv_int hw ha, rv_int hw hb, hl, fin1 hw eH rfl q⟩
    · cases ho
  · cases ho
theorem or_pow : OpR X (binaryOp .Pow) (rO (zx X cl) oPow) := by
  rintro pins s σ H x y v u Q I rx ry ⟨w, ⟨t, d⟩, ⟨t', d'⟩, z, eH, hw, ha, hb, ho, q⟩
  unfold oPow at ho
  dsimp only at ho
  split at ho
  · unfold cif at ho
    split at ho
    · rename_i i j hl
      cases ho
      exact op_pow pins s σ H x y v u Q I rx ry ⟨_, _, rv_int hw ha, rv_int hw hb, hl, fin1 hw eH rfl q⟩
    · cases ho
  · cases ho
theorem or_lt : OpR X (compareOp .Lt) (rO (zx X cl) oLt) := by
  rintro pins s σ H x y v u Q I rx ry ⟨w, ⟨t, d⟩, ⟨t', d'⟩, z, eH, hw, ha, hb, ho, q⟩
  unfold oLt at ho
  dsimp only at ho
  split at ho
  · cases ho
    rw [cdec_eq] at q
    exact op_lt pins s σ H x y v u Q I rx ry ⟨_, _, rv_int hw ha, rv_int hw hb, fin1 hw eH rfl q⟩
  · cases ho
theorem or_gt : OpR X (compareOp .Gt) (rO (zx X cl) oGt) := by
  rintro pins s σ H x y v u Q I rx ry ⟨w, ⟨t, d⟩, ⟨t', d'⟩, z, eH, hw, ha, hb, ho, q⟩
  unfold oGt at ho
  dsimp only at ho
  split at ho
  · cases ho
    rw [cdec_eq] at q
    exact op_gt pins s σ H x y v u Q I rx ry ⟨_, _, rv_int hw ha, rv_int hw hb, fin1 hw eH rfl q⟩
  · cases ho
theorem or_ge : OpR X (compareOp .GtE) (rO (zx X cl) oGe) := by
  rintro pins s σ H x y v u Q I rx ry ⟨w, ⟨t, d⟩, ⟨t', d'⟩, z, eH, hw, ha, hb, ho, q⟩
  unfold oGe at ho
  dsimp only at ho
  split at ho
  · cases ho
    rw [cdec_eq] at q
    exact op_ge pins s σ H x y v u Q I rx ry ⟨_, _, rv_int hw ha, rv_int hw hb, fin1 hw eH rfl q⟩
  · cases ho
mutual
theorem dp_of {Z : Zc} {H : Hp} : ∀ {v : V} {d : D}, Rp Z H v d → pyOk d = true → Dp Z.K H v (py d)
  | _, _, .non, _ => .non
  | _, _, .bl b, _ => .bl b
  | _, _, .int i, _ => .int i
  | _, _, .str s, _ => .str s
  | _, _, .lst h r, e => .lst (SqL.of h) (dpAll_of r (by simpa only [pyOk] using e))
  | _, _, .scr h r, e => .lst h (dpAll_of r (by simpa only [pyOk] using e))
  | _, _, .tup h r, e => .tup h (dpAll_of r (by simpa only [pyOk] using e))
  | _, _, .ins _ _ _ _, e => by simp only [pyOk] at e; cases e
  | _, _, .dic _ _ _, e => by simp only [pyOk] at e; cases e
  | _, _, .exn _ _ _ _ _, e => by simp only [pyOk] at e; cases e
theorem dpAll_of {Z : Zc} {H : Hp} : ∀ {vs : List V} {ds : List D}, RpL Z H vs ds → pyOkL ds = true → DpAll Z.K H vs (pyL ds)
  | _, _, .nil, _ => .nil
  | _, _, .cons h r, e => by
    simp only [pyOkL, Bool.and_eq_true] at e
    exact .cons (dp_of h e.1) (dpAll_of r e.2)
end
/-- what == asks, both ways -/
theorem eqD_cases {K : PySem.W.Frag} {w : Wd} {a b : TD} {x y : V} {k : Bool} {cl : Str → Option Addr} (hw : Wf w) (ha : RV ⟨K, cl⟩ w a x) (hb : RV ⟨K, cl⟩ w b y) (h : eqD a.2 b.2 = some k) :
    (scal x y = true ∧ decide (x = y) = k) ∨ ∃ d e, Dp K w.H x d ∧ Dp K w.H y e ∧ SeqAt.shaped d = true ∧ SeqAt.shaped e = true ∧ PyData.eqv d e = k := by
  obtain ⟨t, d⟩ := a
  obtain ⟨t', d'⟩ := b
  unfold eqD at h
  dsimp only at h
  split at h
  · cases h; rw [rv_int hw ha, rv_int hw hb]; exact .inl ⟨rfl, by simp only [V.int.injEq]⟩
  · cases h; rw [rv_str hw ha, rv_str hw hb]; exact .inl ⟨rfl, by simp only [V.str.injEq]⟩
  · cases h; rw [rv_bl hw ha, rv_bl hw hb]; exact .inl ⟨rfl, by simp only [V.bl.injEq]⟩
  · cases h; rw [rv_non hw ha, rv_non hw hb]; exact .inl ⟨rfl, by simp⟩
  · cases h; rw [rv_int hw ha, rv_non hw hb]; exact .inl ⟨rfl, by simp⟩
  · cases h; rw [rv_non hw ha, rv_int hw hb]; exact .inl ⟨rfl, by simp⟩
  · cases h; rw [rv_str hw ha, rv_non hw hb]; exact .inl ⟨rfl, by simp⟩
  · cases h; rw [rv_non hw ha, rv_str hw hb]; exact .inl ⟨rfl, by simp⟩
  · cases h; rw [rv_int hw ha, rv_str hw hb]; exact .inl ⟨rfl, by simp⟩
  · cases h; rw [rv_str hw ha, rv_int hw hb]; exact .inl ⟨rfl, by simp⟩
  · split at h
    · rename_i hc
      cases h
      simp only [Bool.and_eq_true] at hc
      exact .inr ⟨_, _, dp_of (ha.top hw) hc.1.1.1, dp_of (hb.top hw) hc.1.1.2, hc.1.2, hc.2, rfl⟩
    · cases h
theorem or_eq (hX : XS X) : OpR X (compareOp .Eq) (rO (zx X cl) oEq) := by
  rintro pins s σ H x y v u Q I rx ry ⟨w, a, b, z, eH, hw, ha, hb, ho, q⟩
  obtain ⟨k, hk, rfl⟩ := Option.map_eq_some_iff.mp ho
  have hu := hX.hu
  rcases eqD_cases hw ha hb hk with ⟨h1, h2⟩ | ⟨d, e, h1, h2, h3, h4, h5⟩
  · exact op_eq pins s σ H x y v u Q I rx ry ⟨h1, by rw [h2]; exact fin1 hw eH (d := .bl k) rfl q⟩
  · subst eH
    exact op_eqD (by omega) pins s σ _ x y v u Q I rx ry ⟨d, e, h1, h2, h3, h4, by rw [h5]; exact fin1 hw rfl (d := .bl k) rfl q⟩
theorem or_ne (hX : XS X) : OpR X (compareOp .NotEq) (rO (zx X cl) oNe) := by
  rintro pins s σ H x y v u Q I rx ry ⟨w, a, b, z, eH, hw, ha, hb, ho, q⟩
  obtain ⟨k, hk, rfl⟩ := Option.map_eq_some_iff.mp ho
  have hu := hX.hu
  rcases eqD_cases hw ha hb hk with ⟨h1, h2⟩ | ⟨d, e, h1, h2, h3, h4, h5⟩
  · exact op_ne pins s σ H x y v u Q I rx ry ⟨h1, by rw [h2]; exact fin1 hw eH (d := .bl (!k)) rfl q⟩
  · subst eH
    exact op_neD (by omega) pins s σ _ x y v u Q I rx ry ⟨d, e, h1, h2, h3, h4, by rw [h5]; exact fin1 hw rfl (d := .bl (!k)) rfl q⟩
theorem rv_dic {Z : Zc} {w : Wd} (hw : Wf w) {t : Tg} {ks : List Key} {ds : List D} {v : V} (h : RV Z w (t, .dic ks ds) v) : ∃ a vs, v = .ref a ∧ Rd w.H a (.dK (ks.zip vs)) ∧ vs.length = ks.length ∧ RpL Z (w.rd (el t)) vs ds := by
  cases t with
  | O => obtain ⟨p, vs, ds, e, e2, _⟩ := h; cases e2
  | N => cases h with | dic h l r => exact ⟨_, _, rfl, rd_mono hw.nh h, l, r⟩
  | B => cases h with | dic h l r => exact ⟨_, _, rfl, rd_mono hw.bh h, l, r⟩
  | T => cases h with | dic h l r => exact ⟨_, _, rfl, h, l, r⟩
end
end Vf
namespace Vf
open PySem L2
abbrev FL := Ev → Option (Tg × List D)
/-- a new list, not yet handed to anybody -/
def tL (Z : Zc) (f : FL) : TE := fun σ H Q => ∃ env w t ds, w.H = H ∧ Wok Z env σ w ∧ f env = some (t, ds) ∧ t ≠ .O ∧
  ∀ p vs w', Gr w w' → w.H p = none → w'.H p = some (.lst vs) → w'.B p = none → RpL Z (w'.rd t) vs ds → Q (.ref p) w'.H
@[simp] def sL (f : FL) : FE := fun env => (f env).bind fun r => if r.1 = .O then none else some (r.1, .lst r.2)
@[simp] def sLd (g : FA) : FL := fun env => (g env).bind fun rs => if rs.length ≤ lim then some (tagL rs, rs.map (·.2)) else none
@[simp] def sTp (g : FA) : FE := fun env => (g env).bind fun rs => if rs.length ≤ lim then some (tagL rs, .tup (rs.map (·.2))) else none
@[simp] def sLo (o : TD → TD → Option (Tg × List D)) (f g : FE) : FL := fun env => (f env).bind fun x => (g env).bind fun y => o x y
def lstOf (a : TD) : Option (Tg × List D) := match a.2 with
  | .lst xs => some (el a.1, xs)
  | .scr xs => some (el a.1, xs)
  | .tup xs => some (el a.1, xs)
  | _ => none
@[simp] def sLb (o : List TD → Option (Tg × List D)) (g : FA) : FL := fun env => (g env).bind o
def listB (rs : List TD) : Option (Tg × List D) := match rs with | [a] => lstOf a | _ => none
def cutD (xs : List D) (lo hi : Option Int) : List D := (xs.drop (HT.sIx xs.length 0 lo)).take (HT.sIx xs.length xs.length hi - HT.sIx xs.length 0 lo)
abbrev FO := Ev → Option (Option Int)
@[simp] def sNoP : FO := fun _ => some none
def sPt (f : FE) : FO := fun env => (f env).bind fun r => match r.2 with | .int i => some (some i) | _ => none
def slD (x : TD) (lo hi : Option Int) : Option TD := match x.2 with
  | .lst xs => some (el x.1, .lst (cutD xs lo hi))
  | .scr xs => some (el x.1, .lst (cutD xs lo hi))
  | .str z => if z.length ≤ lim then some (.N, .str (cutS z lo hi)) else none
  | .tup xs => some (el x.1, .tup (cutD xs lo hi))
  | _ => none
@[simp] def sSl (f : FE) (l h : FO) : FE := fun env => (f env).bind fun x => (l env).bind fun lo => (h env).bind fun hi => slD x lo hi
section
variable {Z : Zc} {w : Wd} {H : Hp}
/-- a list that is laid now, as a new list -/
theorem laid_new {Q : VK} {t : Tg} {ds : List D} {vs : List V} (hw : Wf w) (q : ∀ p vs w', Gr w w' → w.H p = none → w'.H p = some (.lst vs) → w'.B p = none → RpL Z (w'.rd t) vs ds → Q (.ref p) w'.H) (r : RpL Z (w.rd t) vs ds)
    (p : Addr) (hp : w.H p = none) : Q (.ref p) (upd w.H p (.lst vs)) := by
  have g := Gr.put hw (t := .T) (o := .lst vs) hp
  exact q p vs (w.put .T p (.lst vs)) g hp upd_same (hw.bh.free hp) (RpL.mono (rd_gr g t) r)
theorem cutD_all {xs : List D} {lo hi : Option Int} (h : HT.sIx xs.length 0 lo = 0 ∧ HT.sIx xs.length xs.length hi = xs.length) : cutD xs lo hi = xs := by
  unfold cutD
  rw [h.1, h.2]
  simp
theorem cutV_rp {vs : List V} {ds : List D} (r : RpL Z H vs ds) (lo hi : Option Int) : RpL Z H (cutV vs lo hi) (cutD ds lo hi) := by
  unfold cutV cutD
  rw [r.length]
  exact (r.drop _).take _
end
section
variable {X : Cx} {cl : Str → Option Addr} {a b c : Expr} {es : List Expr} {f g h : FE} {fa : FA} {fl : FL} {l1 l2 : FO} {lo hi : Option Expr} {pos : Pos}
theorem je_l (ha : PE X a (tL (zx X cl) fl)) : PE X a (tE (zx X cl) (sL fl)) := by
  refine pe_w ha fun σ H Q ⟨env, w, r, e, k, hr, q⟩ => ?_
  obtain ⟨⟨t, ds⟩, h1, h2⟩ := Option.bind_eq_some_iff.mp hr
  dsimp only at h2
  split at h2
  · cases h2
  · rename_i ht
    cases h2
    refine ⟨env, w, t, ds, e, k, h1, ht, fun p vs w' g1 hp hH hB r => ?_⟩
    obtain ⟨w2, g2, e2, r2⟩ := adopt g1 ht hp hH hB r
    rw [← e2]
    exact q _ w2 g2 r2
theorem jl_d (h : PA X es (tA (zx X cl) fa)) : PE X (.List es pos) (tL (zx X cl) (sLd fa)) := by
  refine pe_w (pe_lst h) fun σ H Q ⟨env, w, t, ds, e, k, hr, ht, q⟩ => ?_
  subst e
  obtain ⟨rs, h1, h2⟩ := Option.bind_eq_some_iff.mp hr
  split at h2
  · rename_i hl
    cases h2
    refine ⟨env, w, rs, rfl, k, h1, fun vs w1 g1 r1 => ⟨lim_le (by rw [r1.length]; exact hl), fun p hp => ?_⟩⟩
    exact laid_new g1.wf (fun p vs w' g2 hp' => q p vs w' (g1.trans g2) (g1.h.free hp')) (rvs_items g1.wf r1) p hp
  · cases h2
theorem je_tup {x1 : Nat} (h : PA X es (tA (zx X cl) fa)) : PE X (.Tuple es x1 pos) (tE (zx X cl) (sTp fa)) := by
  refine pe_w (pe_tup h) fun σ H Q ⟨env, w, r, e, k, hr, q⟩ => ?_
  subst e
  obtain ⟨rs, h1, h2⟩ := Option.bind_eq_some_iff.mp hr
  split at h2
  · rename_i hl
    cases h2
    refine ⟨env, w, rs, rfl, k, h1, fun vs w1 g1 r1 => ⟨lim_le (by rw [r1.length]; exact hl), fun p hp => ?_⟩⟩
    have := q _ _ (g1.trans (Gr.put g1.wf hp)) (new_tup g1.wf (tagL_ne rs) hp (rvs_items g1.wf r1))
    rw [put_H] at this
    exact this
  · cases h2
theorem rvs1 {Z : Zc} {w : Wd} {a : TD} {xs : List V} (h : RVs Z w [a] xs) : ∃ v, xs = [v] ∧ RV Z w a v := by
  match xs, h with
  | [v], h => exact ⟨v, rfl, h.1⟩
theorem rvs2 {Z : Zc} {w : Wd} {a b : TD} {xs : List V} (h : RVs Z w [a, b] xs) : ∃ v u, xs = [v, u] ∧ RV Z w a v ∧ RV Z w b u := by
  match xs, h with
  | [v, u], h => exact ⟨v, u, rfl, h.1, h.2.1⟩
/-! subscripts -/
theorem atI_rp {Z : Zc} {H : Hp} {vs : List V} {ds : List D} {i : Int} {d : D} (r : RpL Z H vs ds) (h : atI ds i = some d) : ∃ v, atI vs i = some v ∧ Rp Z H v d := by
  unfold atI at h ⊢
  rw [r.length]
  obtain ⟨j, h1, h2⟩ := Option.bind_eq_some_iff.mp h
  obtain ⟨v, h3, h4⟩ := r.get h2
  exact ⟨v, by rw [h1]; exact h3, h4⟩
theorem ix_dict (hX : XS X) : IxR X (fun x y H Q => ∃ a v, x = .ref a ∧ DGet H a y (some v) ∧ Q v H) := by
  rintro value slice pins s σ H x y v u Q I rx ry ⟨a, r, rfl, g, q⟩ hs
  obtain rfl : v = Value.ref a := rx
  exact PyProof.Rows.tail_any (dict_typeIs I g) PySem.F.slot_dict_getitem.lookup (d_getItem (by have := hX.hu; omega) I g ry fun w' s3 I3 rw' => ⟨r, H, I3, rw', q⟩) hs
theorem ix_dd (hX : XS X) {w : Wd} {t t' : Tg} {d' : D} {ks : List Key} {ds : List D} {k : Key} {d0 : D} {x y : V} (hw : Wf w) (ha : RV (zx X cl) w (t, .dic ks ds) x) (hb : RV (zx X cl) w (t', d') y) (h1 : keyD d' = some k) (h3 : dgt ks ds k = some d0) :
    ∃ a v, x = .ref a ∧ DGet w.H a y (some v) ∧ RV (zx X cl) w (nm (el t, d0)) v := by
  obtain ⟨p, vs, rfl, h4, h5, h6⟩ := rv_dic hw ha
  obtain ⟨s1, s2⟩ := keyD_v h1
  obtain rfl := rv_s hw s1 hb
  obtain ⟨v0, h7, h8⟩ := dgt_rp h6 h3
  exact ⟨p, v0, rfl, .inl ⟨_, k, h4, s2, by rw [dgt_val, h7]⟩, RV.nm hw (RV.of (el_ne t) h8)⟩
theorem ix_d (hX : XS X) : IxR X (rO (zx X cl) oIx) := by
  rintro value slice pins s σ H x y v u Q I rx ry ⟨w, ⟨t, d⟩, ⟨t', d'⟩, z, eH, hw, ha, hb, ho, q⟩ hs
  unfold oIx at ho
  dsimp only at ho
  split at ho
  · rename_i i
    have ei := rv_int hw hb
    unfold ixD at ho
    dsimp only at ho
    subst eH
    split at ho
    · obtain ⟨d0, h1, rfl⟩ := Option.map_eq_some_iff.mp ho
      obtain ⟨p, vs, rfl, h3, h4⟩ := ha.lst hw
      obtain ⟨v0, h5, h6⟩ := atI_rp h4 h1
      exact ix_list value slice pins s σ _ _ _ v u Q I rx ry ⟨p, vs, i, v0, rfl, ei, SqL.of h3, h5, q v0 w (Gr.refl hw) (RV.nm hw (RV.of (el_ne t) h6))⟩ hs
    · obtain ⟨d0, h1, rfl⟩ := Option.map_eq_some_iff.mp ho
      obtain ⟨p, vs, rfl, h3, h4⟩ := ha.scr hw
      obtain ⟨v0, h5, h6⟩ := atI_rp h4 h1
      exact ix_list value slice pins s σ _ _ _ v u Q I rx ry ⟨p, vs, i, v0, rfl, ei, h3, h5, q v0 w (Gr.refl hw) (RV.nm hw (RV.of (el_ne t) h6))⟩ hs
    · obtain ⟨d0, h1, rfl⟩ := Option.map_eq_some_iff.mp ho
      obtain ⟨p, vs, rfl, h3, h4⟩ := ha.tup hw
      obtain ⟨v0, h5, h6⟩ := atI_rp h4 h1
      exact ix_tup value slice pins s σ _ _ _ v u Q I rx ry ⟨p, vs, i, v0, rfl, ei, h3, h5, q v0 w (Gr.refl hw) (RV.nm hw (RV.of (el_ne t) h6))⟩ hs
    · split at ho
      · rename_i hl
        obtain ⟨c, h1, rfl⟩ := Option.map_eq_some_iff.mp ho
        exact ix_str value slice pins s σ _ _ _ v u Q I rx ry ⟨_, i, c, rv_str hw ha, ei, lim_le hl, h1, fin1 hw rfl (d := .str ⟨#[c]⟩) rfl q⟩ hs
      · cases ho
    · obtain ⟨d0, h1, rfl⟩ := Option.map_eq_some_iff.mp ho
      obtain ⟨p, v0, rfl, g, rv⟩ := ix_dd hX hw ha hb rfl h1
      exact ix_dict hX value slice pins s σ _ _ _ v u Q I rx ry ⟨p, v0, rfl, g, q v0 w (Gr.refl hw) rv⟩ hs
    · cases ho
  · unfold ixS at ho
    dsimp only at ho
    subst eH
    split at ho
    · obtain ⟨d0, h1, rfl⟩ := Option.map_eq_some_iff.mp ho
      obtain ⟨p, v0, rfl, g, rv⟩ := ix_dd hX hw ha hb rfl h1
      exact ix_dict hX value slice pins s σ _ _ _ v u Q I rx ry ⟨p, v0, rfl, g, q v0 w (Gr.refl hw) rv⟩ hs
    · cases ho
  · cases ho
theorem je_ix (hX : XS X) (ha : PE X a (tE (zx X cl) f)) (hb : PE X b (tE (zx X cl) g)) (hs : PlainIx b := by exact fun _ _ => rfl) : PE X (.Subscript a b pos) (tE (zx X cl) (sOp oIx f g)) :=
  pe_w (pe_ix (ix_d hX) ha hb hs) fun _ _ _ hh => sOp_rd hh
/-! slices -/
def tO (Z : Zc) (f : FO) : TO := fun σ H Q => ∃ env w r, w.H = H ∧ Wok Z env σ w ∧ f env = some r ∧ ∀ w', Gr w w' → Q r w'.H
theorem jo_some (ha : PE X a (tE (zx X cl) f)) : PO X (some a) (tO (zx X cl) (sPt f)) := by
  refine ⟨fun pins s σ H Q I ⟨env, w, r, e, k, hr, q⟩ => (po_some ha).run pins s σ H Q I ?_⟩
  subst e
  obtain ⟨⟨t, d⟩, h1, h2⟩ := Option.bind_eq_some_iff.mp hr
  dsimp only at h2
  split at h2
  · cases h2
    exact ⟨env, w, _, rfl, k, h1, fun v w1 g1 r1 => ⟨_, rv_int g1.wf r1, q w1 g1⟩⟩
  · cases h2
def rSD (Z : Zc) : V → Option Int → Option Int → Hp → VK → Prop := fun x lo hi H Q => ∃ w rx z, w.H = H ∧ Wf w ∧ RV Z w rx x ∧ slD rx lo hi = some z ∧ ∀ v w', Gr w w' → RV Z w' z v → Q v w'.H
theorem sl_d : SlR X (rSD (zx X cl)) := by
  rintro pins s σ H x v vl vu lo hi sl Q I rx hs pl pu ⟨w, ⟨t, d⟩, z, eH, hw, ha, ho, q⟩
  unfold slD at ho
  dsimp only at ho
  subst eH
  split at ho
  · cases ho
    obtain ⟨p, vs, rfl, h3, h4⟩ := ha.lst hw
    refine sl_list pins s σ _ _ v vl vu lo hi sl Q I rx hs pl pu ⟨p, vs, rfl, SqL.of h3, fun np hnp => ?_⟩
    have := q _ _ (Gr.put hw (t := el t) hnp) (new_lst hw (el_ne t) hnp (cutV_rp h4 lo hi))
    rw [put_H] at this
    exact this
  · cases ho
    obtain ⟨p, vs, rfl, h3, h4⟩ := ha.scr hw
    refine sl_list pins s σ _ _ v vl vu lo hi sl Q I rx hs pl pu ⟨p, vs, rfl, h3, fun np hnp => ?_⟩
    have := q _ _ (Gr.put hw (t := el t) hnp) (new_lst hw (el_ne t) hnp (cutV_rp h4 lo hi))
    rw [put_H] at this
    exact this
  · split at ho
    · rename_i hl
      cases ho
      exact sl_str pins s σ _ _ v vl vu lo hi sl Q I rx hs pl pu ⟨_, rv_str hw ha, lim_le hl, fin1 hw rfl (d := .str (cutS _ lo hi)) rfl q⟩
    · cases ho
  · cases ho
    have ha' := ha
    obtain ⟨p, vs, rfl, h3, h4⟩ := ha.tup hw
    refine sl_tupA pins s σ _ _ v vl vu lo hi sl Q I rx hs pl pu ⟨p, vs, rfl, h3, fun hc => ?_, fun hc np hnp => ?_⟩
    · have e : cutD _ lo hi = _ := cutD_all (by rw [← h4.length]; exact hc)
      rw [e] at q
      refine q _ w (Gr.refl hw) (RV.of (el_ne t) ?_)
      cases t <;> first | exact ha' | (obtain ⟨_, _, _, _, z, _⟩ := ha'; cases z)
    · have := q _ _ (Gr.put hw (t := el t) hnp) (new_tup hw (el_ne t) hnp (cutV_rp h4 lo hi))
      rw [put_H] at this
      exact this
  · cases ho
/-! built-ins -/
def lenB (rs : List TD) : Option TD := match rs with
  | [a] => match a.2 with
    | .str z => if z.length ≤ lim then some (.N, .int z.length) else none
    | .lst xs => some (.N, .int xs.length)
    | .scr xs => some (.N, .int xs.length)
    | .tup xs => some (.N, .int xs.length)
    | .dic ks _ => some (.N, .int ks.length)
    | _ => none
  | _ => none
theorem cr_len : CallR X (.builtin "len") (rC (zx X cl) lenB) := by
  rintro pins s σ H xs us Q I r ⟨w, rs, z, eH, hw, hr, ho, q⟩
  unfold lenB at ho
  split at ho
  · rename_i a
    obtain ⟨t, d⟩ := a
    obtain ⟨v, rfl, hv⟩ := rvs1 hr
    dsimp only at ho
    subst eH
    split at ho
    · split at ho
      · rename_i hl
        cases ho
        refine call_len pins s σ _ _ us Q I r ⟨v, _, rfl, ?_, fin1 hw rfl (d := .int _) rfl q⟩
        rw [rv_str hw hv]
        exact ⟨lim_le hl, rfl⟩
      · cases ho
    · cases ho
      obtain ⟨p, vs, rfl, h3, h4⟩ := hv.lst hw
      refine call_len pins s σ _ _ us Q I r ⟨_, _, rfl, .inl ⟨vs, SqL.of h3, rfl⟩, ?_⟩
      rw [h4.length]
      exact fin1 hw rfl (d := .int _) rfl q
    · cases ho
      obtain ⟨p, vs, rfl, h3, h4⟩ := hv.scr hw
      refine call_len pins s σ _ _ us Q I r ⟨_, _, rfl, .inl ⟨vs, h3, rfl⟩, ?_⟩
      rw [h4.length]
      exact fin1 hw rfl (d := .int _) rfl q
    · cases ho
      obtain ⟨p, vs, rfl, h3, h4⟩ := hv.tup hw
      refine call_len pins s σ _ _ us Q I r ⟨_, _, rfl, .inr ⟨vs, h3, rfl⟩, ?_⟩
      rw [h4.length]
      exact fin1 hw rfl (d := .int _) rfl q
    · cases ho
      obtain ⟨p, vs, rfl, h3, h5, h4⟩ := rv_dic hw hv
      obtain ⟨u, rfl, ru⟩ := vals1 r
      cases ru
      exact d_len I h3 fun t s' I' => ⟨.int (((_ : List Key).zip vs).length : Nat), w.H, I', ⟨t, rfl⟩, by rw [List.length_zip, h5, Nat.min_self]; exact fin1 hw rfl (d := .int _) rfl q⟩
    · cases ho
  · cases ho
def intB (rs : List TD) : Option TD := match rs with
  | [a] => match a.2 with
    | .int i => some (.N, .int i)
    | .bl k => some (.N, .int (if k then 1 else 0))
    | _ => none
  | _ => none
theorem cr_int : CallR X (.type "int") (rC (zx X cl) intB) := by
  rintro pins s σ H xs us Q I r ⟨w, rs, z, eH, hw, hr, ho, q⟩
  unfold intB at ho
  split at ho
  · rename_i a
    obtain ⟨t, d⟩ := a
    obtain ⟨v, rfl, hv⟩ := rvs1 hr
    dsimp only at ho
    subst eH
    split at ho
    · cases ho
      exact call_int1 pins s σ _ _ us Q I r (.inl ⟨_, by rw [rv_int hw hv], fin1 hw rfl (d := .int _) rfl q⟩)
    · cases ho
      exact call_int1 pins s σ _ _ us Q I r (.inr ⟨_, by rw [rv_bl hw hv], fin1 hw rfl (d := .int _) rfl q⟩)
    · cases ho
  · cases ho
def tupB (rs : List TD) : Option TD := match rs with
  | [a] => match a.2 with
    | .lst xs => some (el a.1, .tup xs)
    | .scr xs => some (el a.1, .tup xs)
    | .tup xs => some a
    | _ => none
  | _ => none
theorem cr_tup : CallR X (.type "tuple") (rC (zx X cl) tupB) := by
  rintro pins s σ H xs us Q I r ⟨w, rs, z, eH, hw, hr, ho, q⟩
  unfold tupB at ho
  split at ho
  · rename_i a
    obtain ⟨t, d⟩ := a
    obtain ⟨v, rfl, hv⟩ := rvs1 hr
    dsimp only at ho
    subst eH
    split at ho
    · cases ho
      obtain ⟨p, vs, rfl, h3, h4⟩ := hv.lst hw
      refine call_tuple_of pins s σ _ _ us Q I r ⟨p, vs, rfl, .inl ⟨SqL.of h3, fun np hnp => ?_⟩⟩
      have := q _ _ (Gr.put hw (t := el t) hnp) (new_tup hw (el_ne t) hnp h4)
      rw [put_H] at this
      exact this
    · cases ho
      obtain ⟨p, vs, rfl, h3, h4⟩ := hv.scr hw
      refine call_tuple_of pins s σ _ _ us Q I r ⟨p, vs, rfl, .inl ⟨h3, fun np hnp => ?_⟩⟩
      have := q _ _ (Gr.put hw (t := el t) hnp) (new_tup hw (el_ne t) hnp h4)
      rw [put_H] at this
      exact this
    · cases ho
      have hv2 := hv
      obtain ⟨p, vs, rfl, h3, h4⟩ := hv.tup hw
      exact call_tuple_of pins s σ _ _ us Q I r ⟨p, vs, rfl, .inr ⟨h3, q _ w (Gr.refl hw) hv2⟩⟩
    · cases ho
  · cases ho
/-- isinstance of a built-in class -/
def tyOf : D → String
  | .non => "NoneType" | .bl _ => "bool" | .int _ => "int" | .str _ => "str" | .lst _ => "list" | .scr _ => "list" | .tup _ => "tuple" | .dic _ _ => "dict" | .ins _ _ _ => "" | .exn _ _ _ => ""
def isiD (d : D) (T : String) : Option Bool := match d with
  | .ins _ _ _ => none
  | .exn _ _ _ => none
  | d => kitB (tyOf d) T
@[simp] def sIsi (T : String) (f : FE) : FE := fun env => (f env).bind fun x => (isiD x.2 T).map fun k => (.N, .bl k)
def plainT : D → Bool
  | .ins _ _ _ => false | .exn _ _ _ => false
  | _ => true
theorem tyX_of {K : PySem.W.Frag} {cl : Str → Option Addr} {H : Hp} {v : V} {d : D} (h : Rp ⟨K, cl⟩ H v d) (hd : plainT d = true) : TyX K H v (.type (tyOf d)) := by
  cases h with
  | non => exact .base .non
  | bl b => exact .base (.bl b)
  | int i => exact .base (.int i)
  | str s => exact .base (.str s)
  | lst h r => exact .base (.lst h)
  | scr h r =>
    rcases h with (h | ⟨o, h⟩) | ⟨o, its, n, hk, hc, _⟩
    · exact .base (.lst h)
    · exact .base (.frz h)
    · exact .kList hk hc
  | tup h r =>
    rcases h with (h | ⟨o, h⟩) | ⟨o, its, n, hk, hc, _⟩
    · exact .base (.tup h)
    · exact .fTuple h
    · exact .kTuple hk hc
  | ins h c l r => cases hd
  | exn h o c l r => cases hd
  | dic h l r =>
    rcases h with h | ⟨o, h⟩
    · exact .base (.dK h)
    · exact .fDict h
theorem je_isi {T : String} {tn : Str} {p q : Pos} (ha : PE X a (tE (zx X cl) f)) (mi : X.mg "isinstance" = none) (mt : X.mg tn = none) (hT : bootBuiltins tn = some (.type T)) (hgi : Gl X "isinstance" := by rfl) (hgt : Gl X tn := by rfl)
    (hn : tn ≠ "__name__" := by decide) (hdb : (tn == ("__debug__" : Str)) = false := by decide) (he : starEach [a, .Name tn q] X.env = (false, eval a X.env) :: starEach [.Name tn q] X.env := by rfl)
    (hpl : (backTo pos (starEach [.Name tn q] X.env)).any (·.1) = false := by rfl) (he2 : starEach [.Name tn q] X.env = (false, eval (.Name tn q) X.env) :: starEach [] X.env := by rfl) :
    PE X (.Call (.Name "isinstance" p) [a, .Name tn q] [] pos) (tE (zx X cl) (sIsi T f)) := by
  refine pe_w (pe_callB call_isi hgi mi PyProof.Rows.boot_isinstance (pa_cons ha (pa_cons (pe_bltn (v := .ty T) hgt mt hT rfl hn hdb) pa_nil he2) he) (by decide) (by decide) he hpl) fun σ H Q ⟨env, w, r, e, k, hr, q⟩ => ?_
  subst e
  obtain ⟨⟨t, d⟩, h1, h2⟩ := Option.bind_eq_some_iff.mp hr
  obtain ⟨b, h3, rfl⟩ := Option.map_eq_some_iff.mp h2
  refine ⟨env, w, _, rfl, k, h1, fun v w1 g1 r1 => ⟨v, .ty T, .type (tyOf d), .type T, b, rfl, .ty T, ?_, ?_, q _ w1 g1 (nN (.bl b) rfl)⟩⟩
  · refine tyX_of (r1.top g1.wf) ?_
    dsimp only at h3
    cases d <;> first | rfl | cases h3
  · refine kit_ty ?_
    dsimp only at h3
    unfold isiD at h3
    split at h3
    · cases h3
    · cases h3
    · exact h3
end
end Vf
namespace Vf
open PySem L2
/-! ### statements -/
@[simp] def sNx : FS := fun env => some (.nx env)
def thenO (o : Out) (b : FS) : Option Out := match o with | .nx e => b e | o => some o
@[simp] def sSeq (a b : FS) : FS := fun env => (a env).bind fun o => thenO o b
def setV (i : Nat) (r : TD) (env : Ev) : Option Ev := if i < env.s.length then (match r.1 with
  | .N => some (env.put i (.val .N r.2))
  | .B => some (env.put i (.val .B r.2))
  | _ => none) else none
@[simp] def sSet (i : Nat) (f : FE) : FS := fun env => (f env).bind fun r => (setV i r env).map .nx
def sOwn (i : Nat) (f : FL) : FS := fun env => (f env).bind fun r => if i < env.s.length then (match r.1 with
  | .N => some (.nx (env.put i (.own r.2)))
  | _ => none) else none
@[simp] def sRet (f : FE) : FS := fun env => (f env).map .rt
@[simp] def sRetN : FS := fun _ => some (.rt (.N, .non))
@[simp] def sIf (c : FT) (a b : FS) : FS := fun env => (c env).bind fun k => if k then a env else b env
@[simp] def sDrop (f : FE) : FS := fun env => (f env).map fun _ => .nx env
def sFrz (i : Nat) : FS := fun env => match env.s[i]? with
  | some (.own ds) => some (.nx (env.put i (.val .N (.lst ds))))
  | some _ => some (.nx env)
  | none => none
def sApp (i : Nat) (f : FE) : FS := fun env => match env.s[i]? with
  | some (.own ds) => (f env).bind fun r => match r.1 with
    | .N => if ds.length ≤ lim then some (.nx (env.put i (.own (ds ++ [r.2])))) else none
    | _ => none
  | _ => none
def sExt (i : Nat) (f : FE) : FS := fun env => match env.s[i]? with
  | some (.own ds) => (f env).bind fun r => match r.1, r.2 with
    | .N, .lst es => if ds.length + es.length ≤ lim then some (.nx (env.put i (.own (ds ++ es)))) else none
    | _, _ => none
  | _ => none
def sPut (i : Nat) (g f : FE) : FS := fun env => (f env).bind fun r => match env.s[i]? with
  | some (.own ds) => (g env).bind fun k => match r.1, k.2 with
    | .N, .int j => (ixN ds.length j).map fun n => .nx (env.put i (.own (ds.set n r.2)))
    | _, _ => none
  | _ => none
@[simp] def sBrk : FS := fun env => some (.bk env)
@[simp] def sCnt : FS := fun env => some (.ct env)
@[simp] def sNever : FS := fun _ => none
section
variable {Z : Zc} {env : Ev} {σ : L2.St} {w : Wd}
theorem Wok.setV (k : Wok Z env σ w) {i : Nat} (hi : i < env.s.length) {t : Tg} {d : D} {v : V} (h : t = .N ∧ Rp Z w.N v d ∨ t = .B ∧ Rp Z w.B v d) : Wok Z (env.put i (.val t d)) (σ.set i (some v)) w := by
  refine ⟨k.wf, by simpa using k.len, fun j s e => ?_, fun j j' ds es p hne e1 e2 e3 => ?_, k.tb⟩
  · by_cases hj : i = j
    · subst hj
      rw [List.getElem?_set_self hi] at e
      cases e
      exact ⟨some v, List.getElem?_set_self (by rw [k.len]; exact hi), v, rfl, h⟩
    · rw [List.getElem?_set_ne hj] at e
      obtain ⟨o, h1, h2⟩ := k.sl j s e
      exact ⟨o, by rw [List.getElem?_set_ne hj]; exact h1, h2⟩
  · have n1 : i ≠ j := fun q => by
      subst q
      rw [List.getElem?_set_self hi] at e1
      cases e1
    have n2 : i ≠ j' := fun q => by
      subst q
      rw [List.getElem?_set_self hi] at e2
      cases e2
    rw [List.getElem?_set_ne n1] at e1 e3
    rw [List.getElem?_set_ne n2] at e2 ⊢
    exact k.dj j j' ds es p hne e1 e2 e3
theorem setV_ok (k : Wok Z env σ w) {i : Nat} {r : TD} {e : Ev} {v : V} (h : Vf.setV i r env = some e) (hv : RV Z w r v) : Wok Z e (σ.set i (some v)) w := by
  unfold Vf.setV at h
  split at h
  · rename_i hi
    obtain ⟨t, d⟩ := r
    dsimp only at h
    split at h
    · cases h
      exact k.setV hi (.inl ⟨rfl, hv⟩)
    · cases h
      exact k.setV hi (.inr ⟨rfl, hv⟩)
    · cases h
  · cases h
/-- an own list at p changes -/
theorem Wok.mut (k : Wok Z env σ w) {i : Nat} {ds es : List D} {p : Addr} {vs us : List V} (he : env.s[i]? = some (.own ds)) (hs : σ[i]? = some (some (.ref p))) (hp : w.H p = some (.lst vs)) (hb : w.B p = none) (hpm : p ∉ w.m) (r : RpL Z w.N us es) :
    Wok Z (env.put i (.own es)) σ ⟨w.N, w.B, upd w.H p (.lst us), w.m⟩ ∧ Gs w ⟨w.N, w.B, upd w.H p (.lst us), w.m⟩ := by
  have wf : Wf ⟨w.N, w.B, upd w.H p (.lst us), w.m⟩ := ⟨k.wf.nb, same_up1 k.wf.bh hb⟩
  have hi : i < env.s.length := (List.getElem?_eq_some_iff.mp he).1
  refine ⟨⟨wf, by simpa using k.len, fun j s e => ?_, fun j j' ds' es' q hne e1 e2 e3 => ?_, ?_⟩, ⟨wf, .refl _, .refl _, fun x q => .inl q, List.prefix_refl _, fun _ q => .inl q⟩⟩
  · by_cases hj : i = j
    · subst hj
      rw [List.getElem?_set_self hi] at e
      cases e
      exact ⟨_, hs, p, us, rfl, upd_same, hb, hpm, r⟩
    · rw [List.getElem?_set_ne hj] at e
      obtain ⟨o, h1, h2⟩ := k.sl j s e
      refine ⟨o, h1, ?_⟩
      cases s with
      | un => exact trivial
      | val t d => exact h2
      | han n => exact h2
      | exo _ _ _ _ _ _ => exact h2
      | clo f F u x => exact ⟨h2.1, h2.2.1, h2.2.2.1, HvsOk.mono (w := w) (w' := ⟨w.N, w.B, upd w.H p (.lst us), w.m⟩) (.refl _) (List.prefix_refl _) h2.2.2.2⟩
      | own fs =>
        obtain ⟨p', vs', e', h3, h4, h6, h5⟩ := h2
        subst e'
        have : p' ≠ p := fun q => by
          subst q
          exact k.dj i j ds fs p' hj he e hs h1
        exact ⟨p', vs', rfl, by show upd w.H p (.lst us) p' = _; rw [upd_ne this]; exact h3, h4, h6, h5⟩
  · have f : ∀ {n : Nat} {l : List D}, (env.put i (.own es)).s[n]? = some (.own l) → ∃ l', env.s[n]? = some (.own l') := fun {n l} e => by
      by_cases hn : i = n
      · subst hn
        exact ⟨ds, he⟩
      · rw [List.getElem?_set_ne hn] at e
        exact ⟨l, e⟩
    obtain ⟨l1, g1⟩ := f e1
    obtain ⟨l2, g2⟩ := f e2
    exact k.dj j j' l1 l2 q hne g1 g2 e3
  · refine k.tb.away (.refl _) rfl (fun a _ h => h) fun a ha o h => ?_
    show upd w.H p (.lst us) a = _
    rw [upd_ne (fun q => hpm (by rw [← q]; exact ha))]
    exact h
/-- a new own list -/
theorem Wok.own (k : Wok Z env σ w) {i : Nat} (hi : i < env.s.length) {w' : Wd} (g : Gr w w') {ds : List D} {p : Addr} {vs : List V} (hp : w.H p = none) (h : w'.H p = some (.lst vs)) (hb : w'.B p = none) (r : RpL Z w'.N vs ds) :
    Wok Z (env.put i (.own ds)) (σ.set i (some (.ref p))) w' := by
  have k' := k.mono g
  have hpm : p ∉ w'.m := fun q => k.tb.hh p (by rw [← g.m]; exact q) hp
  refine ⟨g.wf, by simpa using k.len, fun j s e => ?_, fun j j' ds' es' q hne e1 e2 e3 => ?_, k'.tb⟩
  · by_cases hj : i = j
    · subst hj
      rw [List.getElem?_set_self hi] at e
      cases e
      exact ⟨_, List.getElem?_set_self (by rw [k.len]; exact hi), p, vs, rfl, h, hb, hpm, r⟩
    · rw [List.getElem?_set_ne hj] at e
      obtain ⟨o, h1, h2⟩ := k'.sl j s e
      exact ⟨o, by rw [List.getElem?_set_ne hj]; exact h1, h2⟩
  · -- an elder own list stands elsewhere
    have old : ∀ {n : Nat} {l : List D}, i ≠ n → (env.put i (.own ds)).s[n]? = some (.own l) → (σ.set i (some (.ref p)))[n]? ≠ some (some (.ref p)) := fun {n l} hn e z => by
      rw [List.getElem?_set_ne hn] at e z
      obtain ⟨o, h1, p', vs', e', h3, _⟩ := k.sl n _ e
      subst e'
      rw [h1] at z
      cases z
      rw [hp] at h3
      cases h3
    by_cases h1 : i = j
    · subst h1
      rw [List.getElem?_set_self (by rw [k.len]; exact hi)] at e3
      cases e3
      exact old hne e2
    · by_cases h2 : i = j'
      · subst h2
        intro z
        rw [List.getElem?_set_self (by rw [k.len]; exact hi)] at z
        cases z
        exact old h1 e1 e3
      · rw [List.getElem?_set_ne h1] at e1 e3
        rw [List.getElem?_set_ne h2] at e2 ⊢
        exact k.dj j j' ds' es' q hne e1 e2 e3
end
section
variable {X : Cx} {cl : Str → Option Addr} {a b c e : Expr} {es : List Expr} {f g h : FE} {fa : FA} {fl : FL} {ct : FT} {A B : FS} {pos : Pos} {st : Stmt} {rest body orelse : List Stmt}
theorem js_nil : PSs X [] (tS (zx X cl) sNx) := by
  refine pss_w pss_nil fun D σ H ⟨env, w, out, e, k, hr, q⟩ => ?_
  subst e
  cases hr
  exact q σ w (Gs.refl k.wf) k
theorem js_cons (h1 : PS X st (tS (zx X cl) A)) (h2 : PSs X rest (tS (zx X cl) B)) : PSs X (st :: rest) (tS (zx X cl) (sSeq A B)) := by
  refine pss_w (pss_cons h1 h2) fun D σ H ⟨env, w, out, e, k, hr, q⟩ => ?_
  subst e
  obtain ⟨o, h3, h4⟩ := Option.bind_eq_some_iff.mp hr
  refine ⟨env, w, o, rfl, k, h3, ?_⟩
  cases o with
  | nx e' => exact fun σ' w' g' k' => ⟨e', w', out, rfl, k', h4, q.mono g'⟩
  | rt r =>
    cases h4
    exact q
  | bk e' =>
    cases h4
    exact q
  | ct e' =>
    cases h4
    exact q
  | rth x T =>
    cases h4
    exact q
/-- the last statement alone -/
theorem js_one (h1 : PS X st (tS (zx X cl) A)) : PSs X [st] (tS (zx X cl) A) := by
  refine pss_w (js_cons h1 js_nil) fun D σ H ⟨env, w, out, e, k, hr, q⟩ => ⟨env, w, out, e, k, ?_, q⟩
  unfold sSeq
  rw [hr]
  cases out <;> rfl
theorem js_set (i : Nat) {x : Str} {p' : Pos} (hX : XS X) (he : PE X e (tE (zx X cl) f)) (hi : X.N[i]? = some x := by rfl) (hx : Loc X.env.scope x := by first | exact Or.inl rfl | exact Or.inr rfl) (hs : swapsWith e (some (.Name x p')) pos.line X.env = pure false := by rfl)
    (hf : X.fn x = true ∨ X.env.scope.names.lookup x = some .local := by first | exact .inl rfl | exact .inr rfl) : PS X (.Assign [.Name x p'] e pos) (tS (zx X cl) (sSet i f)) := by
  refine ps_w (ps_set hX.nd hi hx he hs hf) fun D σ H ⟨env, w, out, e, k, hr, q⟩ => ?_
  subst e
  obtain ⟨r, h3, h4⟩ := Option.bind_eq_some_iff.mp hr
  obtain ⟨e', h5, rfl⟩ := Option.map_eq_some_iff.mp h4
  refine ⟨env, w, r, rfl, k, h3, fun v w1 g1 r1 => ?_⟩
  exact q _ w1 (g1.gs k.wf) (setV_ok (k.mono g1) h5 r1)
theorem sOwn_rd {i : Nat} {D : Ends} {σ : L2.St} {H : Hp} {Z : Zc} (hh : tS Z (sOwn i fl) D σ H) : tL Z fl σ H fun v H1 => D.nx (σ.set i (some v)) H1 := by
  obtain ⟨env, w, out, e, k, hr, q⟩ := hh
  subst e
  obtain ⟨⟨t, ds⟩, h3, h4⟩ := Option.bind_eq_some_iff.mp hr
  dsimp only at h4
  split at h4
  · rename_i hi
    split at h4
    · cases h4
      exact ⟨env, w, .N, ds, rfl, k, h3, by decide, fun p vs w1 g1 hp hH hB r => q _ w1 (g1.gs k.wf) (k.own hi g1 hp hH hB r)⟩
    · cases h4
  · cases h4
theorem js_own (i : Nat) {x : Str} {p' : Pos} (hX : XS X) (he : PE X e (tL (zx X cl) fl)) (hi : X.N[i]? = some x := by rfl) (hx : Loc X.env.scope x := by first | exact Or.inl rfl | exact Or.inr rfl) (hs : swapsWith e (some (.Name x p')) pos.line X.env = pure false := by rfl)
    (hf : X.fn x = true ∨ X.env.scope.names.lookup x = some .local := by first | exact .inl rfl | exact .inr rfl) : PS X (.Assign [.Name x p'] e pos) (tS (zx X cl) (sOwn i fl)) :=
  ps_w (ps_set hX.nd hi hx he hs hf) fun _ _ _ hh => sOwn_rd hh
theorem js_ret (he : PE X e (tE (zx X cl) f)) : PS X (.Return (some e) pos) (tS (zx X cl) (sRet f)) := by
  refine ps_w (ps_ret he) fun D σ H ⟨env, w, out, e, k, hr, q⟩ => ?_
  subst e
  obtain ⟨r, h3, rfl⟩ := Option.map_eq_some_iff.mp hr
  exact ⟨env, w, r, rfl, k, h3, fun v w1 g1 r1 => q v w1 (g1.gs k.wf) r1⟩
theorem js_if (hc : PT X c (tT (zx X cl) ct)) (ha : PSs X body (tS (zx X cl) A)) (hb : PSs X orelse (tS (zx X cl) B)) : PS X (.If c body orelse pos) (tS (zx X cl) (sIf ct A B)) := by
  refine ps_w (ps_if hc ha hb) fun D σ H ⟨env, w, out, e, k, hr, q⟩ => ?_
  subst e
  obtain ⟨r, h3, h4⟩ := Option.bind_eq_some_iff.mp hr
  refine ⟨env, w, r, rfl, k, h3, fun w1 g1 => ?_⟩
  cases r with
  | true => exact ⟨env, w1, out, rfl, k.mono g1, h4, q.mono (g1.gs k.wf)⟩
  | false => exact ⟨env, w1, out, rfl, k.mono g1, h4, q.mono (g1.gs k.wf)⟩
theorem js_app (i : Nat) {x : Str} {px apos cpos : Pos} (he : PE X e (tE (zx X cl) f)) (hN : X.N[i]? = some x := by rfl) (hv : Vis X.env.scope x := by first | exact Or.inl rfl | exact Or.inr (Or.inl rfl) | exact Or.inr (Or.inr rfl))
    (hd : (x == ("__debug__" : Str)) = false := by decide) (hcd : (x == ("__classdict__" : Str)) = false := by decide) (hbase : attributeBase (.Name x px) "append" X.env (eval (.Name x px) X.env) = eval (.Name x px) X.env := by rfl)
    (hline : (apos.endLine == cpos.line) = true := by rfl) (hs : starEach [e] X.env = (false, eval e X.env) :: starEach [] X.env := by rfl)
    (hfew : ((backTo cpos (starEach [e] X.env)).all (fun x => !x.1) && (backToKw cpos (keywordEach [] X.env)).all (fun x => x.1.isSome) && decide ([e].length + ([] : List Keyword).length + (if ([] : List Keyword).isEmpty then 0 else 1) < 30)) = true := by rfl) :
    PS X (.Expr (.Call (.Attribute (.Name x px) "append" apos) [e] [] cpos) pos) (tS (zx X cl) (sApp i f)) := by
  refine ps_w (ps_expr (pe_bm PySem.F.plainAttrs_list PySem.F.slot_list_append PySem.F.type_list_append mt_append (pe_var hN hv hd hcd) (pa_cons he pa_nil hs) hbase hfew hline hs rfl)) fun D σ H ⟨env, w, out, e, k, hr, q⟩ => ?_
  subst e
  unfold sApp at hr
  split at hr
  · rename_i ds henv
    obtain ⟨r, h3, h4⟩ := Option.bind_eq_some_iff.mp hr
    obtain ⟨o, ho, p, vs, rfl, h5, h6, hpm, h7⟩ := k.sl i _ henv
    refine ⟨.ref p, ho, .inl ⟨rfl, _, SqL.of h5⟩, env, w, r, rfl, k, h3, fun v w1 g1 r1 => ?_⟩
    obtain ⟨t, d⟩ := r
    dsimp only at h4
    split at h4
    · split at h4
      · rename_i hl
        cases h4
        refine ⟨p, vs, v, rfl, rfl, g1.h _ _ h5, lim_lt (by rw [h7.length]; exact hl), ?_⟩
        obtain ⟨k2, g2⟩ := (k.mono g1).mut (us := vs ++ [v]) (es := ds ++ [d]) henv ho (g1.h _ _ h5) (own_mono g1 h5 h6) (by rw [g1.m]; exact hpm) ((RpL.mono g1.n h7).append (.cons r1 .nil))
        exact q σ _ ((g1.gs k.wf).trans g2) k2
      · cases h4
    · cases h4
  · cases hr
/-! ### what a for walks -/
abbrev WG := Wd → Wd → Prop
structure Wk (G : WG) (Z : Zc) (J : It) (w : Wd) (items : List TD) : Prop where
  stop : ∀ w', G w w' → J.stop items.length w'.H
  go : ∀ (i : Nat) (r : TD) (w' : Wd), G w w' → items[i]? = some r → J.go i w'.H ∧ ∀ x H', J.yld i w'.H x H' → ∃ w2, Gr w' w2 ∧ w2.H = H' ∧ RV Z w2 r x
structure Gwf (G : WG) : Prop where
  wf : ∀ w w', G w w' → Wf w'
theorem gwf_s : Gwf Gs := ⟨fun _ _ g => g.wf⟩
theorem gwf_r : Gwf Gr := ⟨fun _ _ g => g.wf⟩
abbrev FI := Ev → Option (List TD)
def tI (G : WG) (Z : Zc) (fi : FI) : TI := fun σ H R => ∃ env w items, w.H = H ∧ Wok Z env σ w ∧ fi env = some items ∧ ∀ J w', Gr w w' → Wk G Z J w' items → R J w'.H
theorem pi_w {tg iter : Expr} {t t' : TI} (h : PI X tg iter t) (hw : ∀ σ H R, t' σ H R → t σ H R) : PI X tg iter t' := ⟨fun pins s σ H R I q => h.run pins s σ H R I (hw _ _ _ q)⟩
def iRng (n : Nat) (lo : Int) : List TD := (List.range n).map fun k => (.N, .int (lo + (k : Nat)))
noncomputable def r1K (r : TD) : Option (List TD) := match r.2 with | .int j => cif (j < 4611686018427387904 ∧ -4611686018427387904 ≤ j) (some (iRng j.toNat 0)) none | _ => none
noncomputable def sR1 (f : FE) : FI := fun env => (f env).bind r1K
noncomputable def r2K (r r' : TD) : Option (List TD) := match r.2, r'.2 with
  | .int i, .int j => cif (i < 4611686018427387904 ∧ -4611686018427387904 ≤ i ∧ j < 4611686018427387904 ∧ -4611686018427387904 ≤ j) (some (iRng (j - i).toNat i)) none
  | _, _ => none
noncomputable def sR2 (f g : FE) : FI := fun env => (f env).bind fun r => (g env).bind fun r' => r2K r r'
def itemsOf (r : TD) : Option (List TD) := match r.1, r.2 with
  | .N, .lst xs => some (xs.map fun d => nm (.N, d))
  | .B, .lst xs => some (xs.map fun d => nm (.B, d))
  | .N, .scr xs => some (xs.map fun d => nm (.N, d))
  | .B, .scr xs => some (xs.map fun d => nm (.B, d))
  | .N, .tup xs => some (xs.map fun d => nm (.N, d))
  | .B, .tup xs => some (xs.map fun d => nm (.B, d))
  | _, _ => none
@[simp] def sIt (f : FE) : FI := fun env => (f env).bind itemsOf
theorem wk_rng {G : WG} (hG : Gwf G) {Z : Zc} {w : Wd} (n : Nat) (lo : Int) : Wk G Z (Itr lo n) w (iRng n lo) := by
  refine ⟨fun w' g => ?_, fun i r w' g hr => ?_⟩
  · show n ≤ (iRng n lo).length
    unfold iRng
    simp
  · unfold iRng at hr
    rw [List.getElem?_map] at hr
    obtain ⟨k, h1, rfl⟩ := Option.map_eq_some_iff.mp hr
    have hi : i < n := by
      have := (List.getElem?_eq_some_iff.mp h1).1
      simpa using this
    have hk : k = i := by
      rw [List.getElem?_range hi] at h1
      exact (Option.some.inj h1).symm
    subst hk
    refine ⟨hi, fun x H' hy => ⟨w', Gr.refl (hG.wf _ _ g), hy.1.symm, ?_⟩⟩
    rw [hy.2]
    exact nN (.int _) rfl
theorem ji_range1 {tg : Expr} {p : Pos} {G : WG} (hG : Gwf G) (hm : X.mg "range" = none) (ha : PA X [a] (tA (zx X cl) (sCons f sNil))) (hg : Gl X "range" := by rfl) (hs : starEach [a] X.env = [(false, eval a X.env)] := by rfl) : PI X tg (.Call (.Name "range" p) [a] [] pos) (tI G (zx X cl) (sR1 f)) := by
  refine pi_w (pi_range1 hg hm ha (hs := hs)) fun σ H R ⟨env, w, items, e, k, hr, q⟩ => ?_
  subst e
  obtain ⟨⟨t, d⟩, h1, h2⟩ := Option.bind_eq_some_iff.mp hr
  unfold r1K at h2
  dsimp only at h2
  split at h2
  · unfold cif at h2
    split at h2
    · rename_i j hj
      cases h2
      refine ⟨env, w, [(t, .int j)], rfl, k, by unfold sCons sNil; rw [h1]; rfl, fun vs w1 g1 r1 => ?_⟩
      obtain ⟨v, rfl, hv⟩ := rvs1 r1
      exact ⟨j, by rw [rv_int g1.wf hv], by omega, by omega, q _ w1 g1 (wk_rng hG _ _)⟩
    · cases h2
  · cases h2
theorem ji_range2 {tg : Expr} {p : Pos} {G : WG} (hG : Gwf G) (hm : X.mg "range" = none) (ha : PA X [a, b] (tA (zx X cl) (sCons f (sCons g sNil)))) (hg : Gl X "range" := by rfl) (hs : starEach [a, b] X.env = [(false, eval a X.env), (false, eval b X.env)] := by rfl) (hs2 : starEach [b] X.env = [(false, eval b X.env)] := by rfl) : PI X tg (.Call (.Name "range" p) [a, b] [] pos) (tI G (zx X cl) (sR2 f g)) := by
  refine pi_w (pi_range2 hg hm ha (hs := hs) (hs2 := hs2)) fun σ H R ⟨env, w, items, e, k, hr, q⟩ => ?_
  subst e
  obtain ⟨⟨t, d⟩, h1, h2⟩ := Option.bind_eq_some_iff.mp hr
  obtain ⟨⟨t', d'⟩, h1', h2⟩ := Option.bind_eq_some_iff.mp h2
  unfold r2K at h2
  dsimp only at h2
  split at h2
  · unfold cif at h2
    split at h2
    · rename_i hj
      cases h2
      refine ⟨env, w, [(t, _), (t', _)], rfl, k, by unfold sCons sNil; rw [h1, h1']; rfl, fun vs w1 g1 r1 => ?_⟩
      obtain ⟨v, v', rfl, hv, hv'⟩ := rvs2 r1
      exact ⟨_, _, by rw [rv_int g1.wf hv, rv_int g1.wf hv'], by omega, q _ w1 g1 (wk_rng hG _ _)⟩
    · cases h2
  · cases h2
theorem gs_rd {w w' : Wd} (g : Gs w w') {t : Tg} (ht : t = .N ∨ t = .B) : Same (w.rd t) (w'.rd t) := by
  rcases ht with rfl | rfl
  · exact g.n
  · exact g.b
theorem wk_l {Z : Zc} {w : Wd} {t : Tg} (ht : t = .N ∨ t = .B) {p : Addr} {vs : List V} {ds : List D} (hw : Wf w) (h : SqL Z.K (w.rd t) p vs) (r : RpL Z (w.rd t) vs ds) : Wk Gs Z (Itl Z.K p) w (ds.map fun d => nm (t, d)) := by
  have hO : t ≠ .O := by rcases ht with rfl | rfl <;> decide
  have top : ∀ {w'}, Gs w w' → SqL Z.K w'.H p vs := fun {w'} g => ((gs_rd g ht).trans (rd_le g.wf t)).seq h
  refine ⟨fun w' g => ⟨vs, top g, by rw [List.length_map, r.length]; exact Nat.le_refl _⟩, fun i rr w' g hr => ?_⟩
  rw [List.getElem?_map] at hr
  obtain ⟨d, h1, rfl⟩ := Option.map_eq_some_iff.mp hr
  obtain ⟨v, h2, h3⟩ := r.get h1
  refine ⟨⟨vs, v, top g, h2⟩, fun x H' hy => ⟨w', Gr.refl g.wf, hy.1.symm, ?_⟩⟩
  have e := hy.2 vs (top g)
  rw [h2] at e
  cases e
  exact RV.nm g.wf (RV.of hO (Rp.mono (gs_rd g ht) h3))
theorem wk_t {Z : Zc} {w : Wd} {t : Tg} (ht : t = .N ∨ t = .B) {p : Addr} {vs : List V} {ds : List D} (hw : Wf w) (h : SqT Z.K (w.rd t) p vs) (r : RpL Z (w.rd t) vs ds) : Wk Gs Z (Itt Z.K p) w (ds.map fun d => nm (t, d)) := by
  have hO : t ≠ .O := by rcases ht with rfl | rfl <;> decide
  have top : ∀ {w'}, Gs w w' → SqT Z.K w'.H p vs := fun {w'} g => sqT_mono ((gs_rd g ht).trans (rd_le g.wf t)) h
  refine ⟨fun w' g => ⟨vs, top g, by rw [List.length_map, r.length]; exact Nat.le_refl _⟩, fun i rr w' g hr => ?_⟩
  rw [List.getElem?_map] at hr
  obtain ⟨d, h1, rfl⟩ := Option.map_eq_some_iff.mp hr
  obtain ⟨v, h2, h3⟩ := r.get h1
  refine ⟨⟨vs, v, top g, h2⟩, fun x H' hy => ⟨w', Gr.refl g.wf, hy.1.symm, ?_⟩⟩
  have e := hy.2 vs (top g)
  rw [h2] at e
  cases e
  exact RV.nm g.wf (RV.of hO (Rp.mono (gs_rd g ht) h3))
theorem ji_it {tg : Expr} (ha : PE X a (tE (zx X cl) f)) : PI X tg a (tI Gs (zx X cl) (sIt f)) := by
  refine ⟨fun pins s σ H R I ⟨env, w, items, e, k, hr, q⟩ => ?_⟩
  subst e
  obtain ⟨⟨t, d⟩, h1, h2⟩ := Option.bind_eq_some_iff.mp hr
  have lst : ∀ (u : Tg), (u = .N ∨ u = .B) → ∀ (xs : List D), f env = some (u, .lst xs) → items = xs.map (fun d => nm (u, d)) → iList X.K (tE (zx X cl) f) σ w.H R := fun u hu xs hf hi =>
    ⟨env, w, _, rfl, k, hf, fun v w1 g1 r1 => by
      have hO : u ≠ .O := by rcases hu with rfl | rfl <;> decide
      have r2 := RV.rp hO r1
      cases r2 with
      | lst h r =>
        refine ⟨_, rfl, ⟨_, SqL.of (rd_le g1.wf u _ _ h)⟩, q _ w1 g1 ?_⟩
        rw [hi]
        exact wk_l hu g1.wf (SqL.of h) r⟩
  have scr : ∀ (u : Tg), (u = .N ∨ u = .B) → ∀ (xs : List D), f env = some (u, .scr xs) → items = xs.map (fun d => nm (u, d)) → iList X.K (tE (zx X cl) f) σ w.H R := fun u hu xs hf hi =>
    ⟨env, w, _, rfl, k, hf, fun v w1 g1 r1 => by
      have hO : u ≠ .O := by rcases hu with rfl | rfl <;> decide
      have r2 := RV.rp hO r1
      cases r2 with
      | scr h r =>
        refine ⟨_, rfl, ⟨_, (rd_le g1.wf u).seq h⟩, q _ w1 g1 ?_⟩
        rw [hi]
        exact wk_l hu g1.wf h r⟩
  have tup : ∀ (u : Tg), (u = .N ∨ u = .B) → ∀ (xs : List D), f env = some (u, .tup xs) → items = xs.map (fun d => nm (u, d)) → iTup X.K (tE (zx X cl) f) σ w.H R := fun u hu xs hf hi =>
    ⟨env, w, _, rfl, k, hf, fun v w1 g1 r1 => by
      have hO : u ≠ .O := by rcases hu with rfl | rfl <;> decide
      have r2 := RV.rp hO r1
      cases r2 with
      | tup h r =>
        refine ⟨_, rfl, ⟨_, sqT_mono (rd_le g1.wf u) h⟩, q _ w1 g1 ?_⟩
        rw [hi]
        exact wk_t hu g1.wf h r⟩
  unfold itemsOf at h2
  dsimp only at h2
  split at h2 <;> first
    | exact (pi_list ha).run pins s σ _ R I (lst _ (.inl rfl) _ h1 (Option.some.inj h2).symm)
    | exact (pi_list ha).run pins s σ _ R I (lst _ (.inr rfl) _ h1 (Option.some.inj h2).symm)
    | exact (pi_list ha).run pins s σ _ R I (scr _ (.inl rfl) _ h1 (Option.some.inj h2).symm)
    | exact (pi_list ha).run pins s σ _ R I (scr _ (.inr rfl) _ h1 (Option.some.inj h2).symm)
    | exact (pi_tup ha).run pins s σ _ R I (tup _ (.inl rfl) _ h1 (Option.some.inj h2).symm)
    | exact (pi_tup ha).run pins s σ _ R I (tup _ (.inr rfl) _ h1 (Option.some.inj h2).symm)
    | cases h2
/-! within a comprehension any list may be walked -/
def itemsR (r : TD) : Option (List TD) := match r.2 with
  | .lst xs => some (xs.map fun d => nm (el r.1, d))
  | .scr xs => some (xs.map fun d => nm (el r.1, d))
  | .tup xs => some (xs.map fun d => nm (el r.1, d))
  | _ => none
@[simp] def sItr (f : FE) : FI := fun env => (f env).bind itemsR
theorem wkr_l {Z : Zc} {w : Wd} {t : Tg} (ht : t ≠ .O) {p : Addr} {vs : List V} {ds : List D} (h : SqL Z.K w.H p vs) (r : RpL Z (w.rd t) vs ds) : Wk Gr Z (Itl Z.K p) w (ds.map fun d => nm (t, d)) := by
  have top : ∀ {w'}, Gr w w' → SqL Z.K w'.H p vs := fun {w'} g => g.h.seq h
  refine ⟨fun w' g => ⟨vs, top g, by rw [List.length_map, r.length]; exact Nat.le_refl _⟩, fun i rr w' g hr => ?_⟩
  rw [List.getElem?_map] at hr
  obtain ⟨d, h1, rfl⟩ := Option.map_eq_some_iff.mp hr
  obtain ⟨v, h2, h3⟩ := r.get h1
  refine ⟨⟨vs, v, top g, h2⟩, fun x H' hy => ⟨w', Gr.refl g.wf, hy.1.symm, ?_⟩⟩
  have e := hy.2 vs (top g)
  rw [h2] at e
  cases e
  exact RV.nm g.wf (RV.of ht (Rp.mono (rd_gr g t) h3))
theorem wkr_t {Z : Zc} {w : Wd} {t : Tg} (ht : t ≠ .O) {p : Addr} {vs : List V} {ds : List D} (h : SqT Z.K w.H p vs) (r : RpL Z (w.rd t) vs ds) : Wk Gr Z (Itt Z.K p) w (ds.map fun d => nm (t, d)) := by
  have top : ∀ {w'}, Gr w w' → SqT Z.K w'.H p vs := fun {w'} g => sqT_mono g.h h
  refine ⟨fun w' g => ⟨vs, top g, by rw [List.length_map, r.length]; exact Nat.le_refl _⟩, fun i rr w' g hr => ?_⟩
  rw [List.getElem?_map] at hr
  obtain ⟨d, h1, rfl⟩ := Option.map_eq_some_iff.mp hr
  obtain ⟨v, h2, h3⟩ := r.get h1
  refine ⟨⟨vs, v, top g, h2⟩, fun x H' hy => ⟨w', Gr.refl g.wf, hy.1.symm, ?_⟩⟩
  have e := hy.2 vs (top g)
  rw [h2] at e
  cases e
  exact RV.nm g.wf (RV.of ht (Rp.mono (rd_gr g t) h3))
theorem jir_it {tg : Expr} (ha : PE X a (tE (zx X cl) f)) : PI X tg a (tI Gr (zx X cl) (sItr f)) := by
  refine ⟨fun pins s σ H R I ⟨env, w, items, e, k, hr, q⟩ => ?_⟩
  subst e
  obtain ⟨⟨t, d⟩, h1, h2⟩ := Option.bind_eq_some_iff.mp hr
  unfold itemsR at h2
  dsimp only at h2
  split at h2
  · cases h2
    exact (pi_list ha).run pins s σ _ R I ⟨env, w, _, rfl, k, h1, fun v w1 g1 r1 => by
      obtain ⟨p, vs, rfl, h3, h4⟩ := RV.lst g1.wf r1
      exact ⟨_, rfl, ⟨_, SqL.of h3⟩, q _ w1 g1 (wkr_l (el_ne t) (SqL.of h3) h4)⟩⟩
  · cases h2
    exact (pi_list ha).run pins s σ _ R I ⟨env, w, _, rfl, k, h1, fun v w1 g1 r1 => by
      obtain ⟨p, vs, rfl, h3, h4⟩ := RV.scr g1.wf r1
      exact ⟨_, rfl, ⟨_, h3⟩, q _ w1 g1 (wkr_l (el_ne t) h3 h4)⟩⟩
  · cases h2
    exact (pi_tup ha).run pins s σ _ R I ⟨env, w, _, rfl, k, h1, fun v w1 g1 r1 => by
      obtain ⟨p, vs, rfl, h3, h4⟩ := RV.tup g1.wf r1
      exact ⟨_, rfl, ⟨_, h3⟩, q _ w1 g1 (wkr_t (el_ne t) h3 h4)⟩⟩
  · cases h2
/-- a text, sign by sign -/
def signsOf (r : TD) : Option (List TD) := match r.2 with
  | .str z => some (z.cps.toList.map fun c => (.N, .str ⟨#[c]⟩))
  | _ => none
@[simp] def sIs (f : FE) : FI := fun env => (f env).bind signsOf
/-! x += e, x -= e (ints) -/
def augI (g : Int → Int → Int) (i : Nat) (f : FE) : FS := fun env => (sVar i env).bind fun a => (f env).bind fun b => match a.2, b.2 with
  | .int x, .int y => (setV i (.N, .int (g x y)) env).map .nx
  | _, _ => none
theorem js_augI {g : Int → Int → Int} {op : Operator} (hg : PIp X op (ipI g)) (i : Nat) {x : Str} {p' : Pos} (hX : XS X) (he : PE X e (tE (zx X cl) f)) (hi : X.N[i]? = some x := by rfl) (hx : Loc X.env.scope x := by first | exact Or.inl rfl | exact Or.inr rfl)
    (hf : X.fn x = true ∨ X.env.scope.names.lookup x = some .local := by first | exact .inl rfl | exact .inr rfl) : PS X (.AugAssign (.Name x p') op e pos) (tS (zx X cl) (augI g i f)) := by
  refine ps_w (ps_aug (i := i) hX.nd hi hx he hg hf) fun D σ H ⟨env, w, out, e, k, hr, q⟩ => ?_
  subst e
  obtain ⟨⟨t, a⟩, h1, h2⟩ := Option.bind_eq_some_iff.mp hr
  obtain ⟨⟨t', b⟩, h3, h4⟩ := Option.bind_eq_some_iff.mp h2
  dsimp only at h4
  split at h4
  · rename_i x' y'
    obtain ⟨e', h5, rfl⟩ := Option.map_eq_some_iff.mp h4
    unfold sVar at h1
    split at h1
    · rename_i t2 d2 he2
      obtain ⟨o, ho, v, rfl, hv⟩ := k.sl i _ he2
      have hd : d2 = .int x' := by cases d2 <;> simp [nm] at h1 <;> first | exact (by rw [h1.2]) | skip
      subst hd
      have ev : v = .int x' := by
        rcases hv with ⟨_, hv⟩ | ⟨_, hv⟩ <;> (cases hv; rfl)
      subst ev
      refine ⟨_, ho, env, w, _, rfl, k, h3, fun u w1 g1 r1 => ⟨x', y', rfl, rv_int g1.wf r1, ?_⟩⟩
      exact q _ w1 (g1.gs k.wf) (setV_ok (k.mono g1) h5 (nN (.int (g x' y')) rfl))
    · cases h1
    · cases h1
  · cases h4
/-! reversed(e) -/
def itemsRev (r : TD) : Option (List TD) := match r.1, r.2 with
  | .N, .lst xs => some (xs.reverse.map fun d => nm (.N, d))
  | .B, .lst xs => some (xs.reverse.map fun d => nm (.B, d))
  | .N, .tup xs => some (xs.reverse.map fun d => nm (.N, d))
  | .B, .tup xs => some (xs.reverse.map fun d => nm (.B, d))
  | _, _ => none
theorem wk_rl {Z : Zc} {w : Wd} {t : Tg} (ht : t = .N ∨ t = .B) {p : Addr} {vs : List V} {ds : List D} (h : SqL Z.K (w.rd t) p vs) (r : RpL Z (w.rd t) vs ds) : Wk Gs Z (Itv Z.K p vs.length) w (ds.reverse.map fun d => nm (t, d)) := by
  have hO : t ≠ .O := by rcases ht with rfl | rfl <;> decide
  have top : ∀ {w'}, Gs w w' → SqL Z.K w'.H p vs := fun {w'} g => ((gs_rd g ht).trans (rd_le g.wf t)).seq h
  have hlen := r.length
  refine ⟨fun w' g => ?_, fun i rr w' g hr => ?_⟩
  · show vs.length ≤ _
    simp [hlen]
  · rw [List.getElem?_map] at hr
    obtain ⟨d, h1, rfl⟩ := Option.map_eq_some_iff.mp hr
    have hi : i < ds.length := by
      have := (List.getElem?_eq_some_iff.mp h1).1
      simpa using this
    rw [List.getElem?_reverse hi] at h1
    obtain ⟨v, h2, h3⟩ := r.get h1
    rw [← hlen] at h2
    refine ⟨⟨by omega, vs, v, top g, h2⟩, fun x H' hy => ⟨w', Gr.refl g.wf, hy.1.symm, ?_⟩⟩
    have e := hy.2 vs (top g)
    rw [h2] at e
    cases e
    exact RV.nm g.wf (RV.of hO (Rp.mono (gs_rd g ht) h3))
theorem wk_rt {Z : Zc} {w : Wd} {t : Tg} (ht : t = .N ∨ t = .B) {p : Addr} {vs : List V} {ds : List D} (h : SqT Z.K (w.rd t) p vs) (r : RpL Z (w.rd t) vs ds) : Wk Gs Z (RT.ItvT Z.K p vs.length) w (ds.reverse.map fun d => nm (t, d)) := by
  have hO : t ≠ .O := by rcases ht with rfl | rfl <;> decide
  have top : ∀ {w'}, Gs w w' → SqT Z.K w'.H p vs := fun {w'} g => sqT_mono ((gs_rd g ht).trans (rd_le g.wf t)) h
  have hlen := r.length
  refine ⟨fun w' g => ?_, fun i rr w' g hr => ?_⟩
  · show vs.length ≤ _
    simp [hlen]
  · rw [List.getElem?_map] at hr
    obtain ⟨d, h1, rfl⟩ := Option.map_eq_some_iff.mp hr
    have hi : i < ds.length := by
      have := (List.getElem?_eq_some_iff.mp h1).1
      simpa using this
    rw [List.getElem?_reverse hi] at h1
    obtain ⟨v, h2, h3⟩ := r.get h1
    rw [← hlen] at h2
    refine ⟨⟨by omega, vs, v, top g, h2⟩, fun x H' hy => ⟨w', Gr.refl g.wf, hy.1.symm, ?_⟩⟩
    have e := hy.2 vs (top g)
    rw [h2] at e
    cases e
    exact RV.nm g.wf (RV.of hO (Rp.mono (gs_rd g ht) h3))
/-! a try whose body raises nothing -/
end
end Vf
namespace Vf
open PySem L2
/-! ### targets -/
def tG (Z : Zc) (is : List Nat) (st : TD → Ev → Option Ev) : TG := fun v σ H Q => ∃ env w r e, w.H = H ∧ Wok Z env σ w ∧ RV Z w r v ∧ st r env = some e ∧
  ∀ σ' w', Gr w w' → Wok Z e σ' w' → (∀ n, n ∉ is → σ'[n]? = σ[n]?) → σ'.length = σ.length → Q σ' w'.H
def setCons (s : TD → Ev → Option Ev) (l : List TD → Ev → Option Ev) : List TD → Ev → Option Ev := fun rs env => match rs with | r :: rs => (s r env).bind fun e => l rs e | _ => none
def unp (r : TD) : Option (List TD) := match r.2 with
  | .tup xs => some (xs.map fun d => nm (el r.1, d))
  | .lst xs => some (xs.map fun d => nm (el r.1, d))
  | .scr xs => some (xs.map fun d => nm (el r.1, d))
  | _ => none
section
variable {X : Cx} {cl : Str → Option Addr} {a b c e tg iter elt : Expr} {es : List Expr} {f g h : FE} {fa : FA} {fl : FL} {ct : FT} {A B : FS} {pos : Pos} {st : Stmt} {rest body orelse : List Stmt} {fi : FI} {is js : List Nat} {s : TD → Ev → Option Ev} {l : List TD → Ev → Option Ev}
theorem jg_name (i : Nat) {x : Str} (hX : XS X) (hi : X.N[i]? = some x := by rfl) (hx : Loc X.env.scope x := by first | exact Or.inl rfl | exact Or.inr rfl) (hf : X.fn x = true ∨ X.env.scope.names.lookup x = some .local := by first | exact .inl rfl | exact .inr rfl) : PG X (.Name x pos) (tG (zx X cl) [i] (setV i)) := by
  refine ⟨fun pins s σ H v u Q I r ⟨env, w, rr, e, eH, k, hv, hs, q⟩ => (pg_name (i := i) hX.nd hi hx hf).run pins s σ H v u Q I r ?_⟩
  subst eH
  exact q _ w (Gr.refl k.wf) (setV_ok k hs hv) (fun n hn => List.getElem?_set_ne fun e => hn (by rw [← e]; exact List.mem_singleton.mpr rfl)) List.length_set
@[simp] def sAsg (f : FE) (s : TD → Ev → Option Ev) : FS := fun env => (f env).bind fun r => (s r env).map .nx
/-! ### for, while -/
def forL (A : FS) (s : TD → Ev → Option Ev) : List TD → Ev → Option Out
  | [], env => some (.nx env)
  | r :: rs, env => (s r env).bind fun e => (A e).bind fun o => match o with
    | .nx e' => forL A s rs e'
    | .ct e' => forL A s rs e'
    | .bk e' => some (.nx e')
    | .rt r => some (.rt r)
    | .rth x T => some (.rth x T)
@[simp] def sFor (fi : FI) (s : TD → Ev → Option Ev) (A : FS) : FS := fun env => (fi env).bind fun items => forL A s items env
theorem js_for (hp : PassesOwn (model X.prog X.w) X.A X.env X.xe) (hX : XS X) (hi : PI X tg iter (tI Gs (zx X cl) fi)) (hg : PG X tg (tG (zx X cl) is s)) (hb : PSs X body (tS (zx X cl) A)) (hs : ∀ x, foldedSetIterable iter X.env x = pure x := by intro _; rfl) :
    PS X (.For tg iter body [] pos) (tS (zx X cl) (sFor fi s A)) := by
  refine ps_w (ps_for hp hX.calm hi hg hb hs) fun D σ H ⟨env, w, out, e, k, hr, q⟩ => ?_
  subst e
  obtain ⟨items, h3, h4⟩ := Option.bind_eq_some_iff.mp hr
  refine ⟨env, w, items, rfl, k, h3, fun J w1 g1 wk => ?_⟩
  refine ⟨fun i m σ' H' => ∃ env' w', w'.H = H' ∧ Wok (zx X cl) env' σ' w' ∧ Gs w1 w' ∧ m = items.length - i ∧ i ≤ items.length ∧ forL A s (items.drop i) env' = some out, ⟨items.length, env, w1, rfl, k.mono g1, Gs.refl g1.wf, rfl, Nat.zero_le _, h4⟩, ?_⟩
  rintro i m σ' H' ⟨env', w', rfl, k', gs, rfl, hi, hf⟩
  by_cases hlt : i < items.length
  · obtain ⟨r, hr⟩ : ∃ r, items[i]? = some r := ⟨items[i], List.getElem?_eq_getElem hlt⟩
    have hd : items.drop i = r :: items.drop (i + 1) := by
      rw [List.drop_eq_getElem_cons hlt]
      rw [List.getElem?_eq_getElem hlt] at hr
      rw [Option.some.inj hr]
    rw [hd] at hf
    obtain ⟨e1, h5, h6⟩ := Option.bind_eq_some_iff.mp hf
    obtain ⟨o, h7, h8⟩ := Option.bind_eq_some_iff.mp h6
    obtain ⟨go, yl⟩ := wk.go i r w' gs hr
    refine .inr ⟨go, fun σ2 H2 => ∃ m', m' < items.length - i ∧ ∃ env' w', w'.H = H2 ∧ Wok (zx X cl) env' σ2 w' ∧ Gs w1 w' ∧ m' = items.length - (i + 1) ∧ i + 1 ≤ items.length ∧ forL A s (items.drop (i + 1)) env' = some out, fun _ _ z => z, fun x H2 hy => ?_⟩
    obtain ⟨w2, g2, rfl, r2⟩ := yl x H2 hy
    refine ⟨env', w2, r, e1, rfl, k'.mono g2, r2, h5, fun σ3 w3 g3 k3 _ _ => ⟨e1, w3, o, rfl, k3, h7, ?_⟩⟩
    have g23 : Gs w' w3 := (g2.trans g3).gs k'.wf
    cases o with
    | nx e' => exact fun σ4 w4 g4 k4 => ⟨_, by omega, e', w4, rfl, k4, (gs.trans g23).trans g4, rfl, hlt, h8⟩
    | ct e' => exact fun σ4 w4 g4 k4 => ⟨_, by omega, e', w4, rfl, k4, (gs.trans g23).trans g4, rfl, hlt, h8⟩
    | bk e' =>
      cases h8
      exact fun σ4 w4 g4 k4 => q σ4 w4 ((((g1.gs k.wf).trans gs).trans g23).trans g4) k4
    | rt r' =>
      cases h8
      exact fun v w4 g4 r4 => q v w4 ((((g1.gs k.wf).trans gs).trans g23).trans g4) r4
    | rth x T =>
      cases h8
      exact fun v w4 g4 r4 t4 => q v w4 ((((g1.gs k.wf).trans gs).trans g23).trans g4) r4 t4
  · have e : i = items.length := by omega
    subst e
    refine .inl ⟨wk.stop w' gs, ?_⟩
    rw [List.drop_length] at hf
    cases hf
    exact q σ' w' ((g1.gs k.wf).trans gs) k'
def fuel : Nat := 1000000
/-! ### comprehensions -/
def wipeE (env : Ev) : List Nat → Ev
  | [] => env
  | v :: vs => (wipeE env vs).put v .un
def okT : Tg → Bool | .N => true | .B => true | _ => false
def lcL (ct : FT) (fe : FE) (s : TD → Ev → Option Ev) (env : Ev) : List TD → Option (List TD)
  | [] => some []
  | r :: rs => (s r env).bind fun e => (ct e).bind fun k => if k then (fe e).bind fun y => if okT y.1 then (lcL ct fe s env rs).map fun ys => y :: ys else none else lcL ct fe s env rs
@[simp] def sLc (fi : FI) (s : TD → Ev → Option Ev) (ct : FT) (fe : FE) (vs : List Nat) : FL := fun env => (fi env).bind fun items => if items.length ≤ lim then (lcL ct fe s (wipeE env vs) items).map fun ys => (tagL ys, ys.map (·.2)) else none
@[simp] def sYes : FT := fun _ => some true
theorem jts_nil : PTs X [] (tT (zx X cl) sYes) := by
  refine ⟨fun pins s σ H Q I ⟨env, w, r, e, k, hr, q⟩ => pts_nil.run pins s σ H Q I ?_⟩
  subst e
  cases hr
  exact q w (Gr.refl k.wf)
theorem jts_one (h : PT X c (tT (zx X cl) ct)) : PTs X [c] (tT (zx X cl) ct) := pts_one h
theorem wok_un {Z : Zc} {env : Ev} {σ : L2.St} {w : Wd} (k : Wok Z env σ w) (v : Nat) : Wok Z (env.put v .un) (σ.set v none) w := by
  refine ⟨k.wf, by simpa using k.len, fun j s e => ?_, fun j j' ds es p hne e1 e2 e3 => ?_, k.tb⟩
  · by_cases hj : v = j
    · subst hj
      have hl : v < (env.put v Sl.un).s.length := (List.getElem?_eq_some_iff.mp e).1
      rw [List.length_set] at hl
      rw [List.getElem?_set_self hl] at e
      cases e
      exact ⟨none, List.getElem?_set_self (by rw [k.len]; exact hl), trivial⟩
    · rw [List.getElem?_set_ne hj] at e
      obtain ⟨o, h1, h2⟩ := k.sl j s e
      exact ⟨o, by rw [List.getElem?_set_ne hj]; exact h1, h2⟩
  · have n1 : v ≠ j := fun q => by
      subst q
      have hl : v < (env.put v Sl.un).s.length := (List.getElem?_eq_some_iff.mp e1).1
      rw [List.length_set] at hl
      rw [List.getElem?_set_self hl] at e1
      cases e1
    have n2 : v ≠ j' := fun q => by
      subst q
      have hl : v < (env.put v Sl.un).s.length := (List.getElem?_eq_some_iff.mp e2).1
      rw [List.length_set] at hl
      rw [List.getElem?_set_self hl] at e2
      cases e2
    rw [List.getElem?_set_ne n1] at e1 e3
    rw [List.getElem?_set_ne n2] at e2 ⊢
    exact k.dj j j' ds es p hne e1 e2 e3
theorem wok_wipe {Z : Zc} {env : Ev} {σ : L2.St} {w : Wd} (k : Wok Z env σ w) : ∀ vs : List Nat, Wok Z (wipeE env vs) (wipe σ vs) w
  | [] => k
  | v :: vs => wok_un (wok_wipe k vs) v
theorem wipe_in {σ : L2.St} {i : Nat} : ∀ {vs : List Nat}, i ∈ vs → i < σ.length → (wipe σ vs)[i]? = some none
  | v :: vs, h, hl => by
    unfold wipe
    by_cases e : v = i
    · subst e
      rw [List.getElem?_set_self (by rw [wipe_length]; exact hl)]
    · rw [List.getElem?_set_ne e]
      rcases List.mem_cons.mp h with z | z
      · exact absurd z.symm e
      · exact wipe_in z hl
theorem wipe_eq {σ σ' : L2.St} {is vs : List Nat} (hl : σ'.length = σ.length) (hs : is.all (fun i => vs.contains i) = true) (h : ∀ n, n ∉ is → σ'[n]? = (wipe σ vs)[n]?) : wipe σ' vs = wipe σ vs := by
  apply List.ext_getElem?
  intro n
  by_cases hn : n ∈ vs
  · by_cases hlt : n < σ.length
    · rw [wipe_in hn (by rw [hl]; exact hlt), wipe_in hn hlt]
    · rw [List.getElem?_eq_none (by rw [wipe_length]; omega), List.getElem?_eq_none (by rw [wipe_length]; omega)]
  · rw [wipe_out hn, wipe_out hn]
    have : n ∉ is := fun z => hn (by
      have := List.all_eq_true.mp hs n z
      simpa using this)
    rw [h n this, wipe_out hn]
theorem lcL_len {ct : FT} {fe : FE} {s : TD → Ev → Option Ev} {env : Ev} : ∀ {items ys : List TD}, lcL ct fe s env items = some ys → ys.length ≤ items.length
  | [], ys, h => by cases h; exact Nat.le_refl _
  | r :: rs, ys, h => by
    obtain ⟨e, _, h⟩ := Option.bind_eq_some_iff.mp h
    obtain ⟨k, _, h⟩ := Option.bind_eq_some_iff.mp h
    cases k with
    | false => exact Nat.le_succ_of_le (lcL_len h)
    | true =>
      obtain ⟨y, _, h⟩ := Option.bind_eq_some_iff.mp h
      split at h
      · obtain ⟨zs, h2, rfl⟩ := Option.map_eq_some_iff.mp h
        exact Nat.succ_le_succ (lcL_len h2)
      · cases h
theorem RVs.app {Z : Zc} {w : Wd} : ∀ {rs : List TD} {vs : List V} {r : TD} {v : V}, RVs Z w rs vs → RV Z w r v → RVs Z w (rs ++ [r]) (vs ++ [v])
  | [], [], _, _, _, h => ⟨h, trivial⟩
  | _ :: _, _ :: _, _, _, ⟨h, t⟩, q => ⟨h, RVs.app t q⟩
  | [], _ :: _, _, _, h, _ => h.elim
  | _ :: _, [], _, _, h, _ => h.elim
theorem rvs_same {Z : Zc} {w : Wd} {H' : Hp} : ∀ {rs : List TD} {vs : List V}, rs.all (fun r => okT r.1) = true → RVs Z w rs vs → RVs Z ⟨w.N, w.B, H', w.m⟩ rs vs
  | [], [], _, _ => trivial
  | (t, d) :: rs, v :: vs, ha, ⟨h, t'⟩ => by
    simp only [List.all_cons, Bool.and_eq_true] at ha
    refine ⟨?_, rvs_same ha.2 t'⟩
    cases t with
    | N => exact h
    | B => exact h
    | T => exact absurd ha.1 (by decide)
    | O => exact absurd ha.1 (by decide)
  | [], _ :: _, _, h => h.elim
  | _ :: _, [], _, h => h.elim
theorem lc_rd {X : Cx} {cl : Str → Option Addr} {fi : FI} {is vs : List Nat} {s : TD → Ev → Option Ev} {ct : FT} {f : FE} (hsub : is.all (fun i => vs.contains i) = true) {σ : L2.St} {H : Hp} {Q : VK} (hh : tL (zx X cl) (sLc fi s ct f vs) σ H Q) :
    tLc (tI Gr (zx X cl) fi) (tG (zx X cl) is s) (tT (zx X cl) ct) (tE (zx X cl) f) vs σ H Q := by
  obtain ⟨env, w, t, ds, e, k, hr, ht, q⟩ := hh
  subst e
  obtain ⟨items, h3, h4⟩ := Option.bind_eq_some_iff.mp hr
  split at h4
  · rename_i hil
    obtain ⟨ys, h5, h6⟩ := Option.map_eq_some_iff.mp h4
    cases h6
    refine ⟨env, w, items, rfl, k, h3, fun J w1 g1 wk D hD => ?_⟩
    have k1 : Wok (zx X cl) (wipeE env vs) (wipe σ vs) w1 := wok_wipe (k.mono g1) vs
    -- the list at D is nobody's yet
    refine ⟨fun i m H' => ∃ w' acc rs zs, w'.H = H' ∧ Gr w1 w' ∧ w'.H D = some (.lst acc) ∧ w'.B D = none ∧ RVs (zx X cl) w' rs acc ∧ rs.all (fun r => okT r.1) = true ∧ m = items.length - i ∧ i ≤ items.length ∧ lcL ct f s (wipeE env vs) (items.drop i) = some zs ∧ rs ++ zs = ys,
      ⟨items.length, w1.put .T D (.lst []), [], [], ys, rfl, Gr.put g1.wf hD, upd_same, g1.wf.bh.free hD, trivial, rfl, rfl, Nat.zero_le _, h5, rfl⟩, ?_⟩
    rintro i m H' ⟨w', acc, rs, zs, rfl, g2, hA, hB, hR, hok, rfl, hi, hf, hys⟩
    by_cases hlt : i < items.length
    · obtain ⟨r, hr⟩ : ∃ r, items[i]? = some r := ⟨items[i], List.getElem?_eq_getElem hlt⟩
      have hd : items.drop i = r :: items.drop (i + 1) := by
        rw [List.drop_eq_getElem_cons hlt]
        rw [List.getElem?_eq_getElem hlt] at hr
        rw [Option.some.inj hr]
      rw [hd] at hf
      obtain ⟨e1, h7, h8⟩ := Option.bind_eq_some_iff.mp hf
      obtain ⟨kk, h9, h10⟩ := Option.bind_eq_some_iff.mp h8
      obtain ⟨go, yl⟩ := wk.go i r w' g2 hr
      refine .inr ⟨go, fun H2 => ∃ m', m' < items.length - i ∧ ∃ w' acc rs zs, w'.H = H2 ∧ Gr w1 w' ∧ w'.H D = some (.lst acc) ∧ w'.B D = none ∧ RVs (zx X cl) w' rs acc ∧ rs.all (fun r => okT r.1) = true ∧ m' = items.length - (i + 1) ∧ i + 1 ≤ items.length ∧ lcL ct f s (wipeE env vs) (items.drop (i + 1)) = some zs ∧ rs ++ zs = ys,
        fun _ z => z, fun x H2 hy => ?_⟩
      obtain ⟨w2, g3, rfl, r2⟩ := yl x H2 hy
      refine ⟨wipeE env vs, w2, r, e1, rfl, (k1.mono g2).mono g3, r2, h7, fun σ3 w3 g4 k3 f3 l3 => ⟨?_, e1, w3, kk, rfl, k3, h9, fun w4 g5 => ?_⟩⟩
      · have hl : σ3.length = σ.length := l3.trans (wipe_length σ vs)
        exact wipe_eq hl hsub f3
      · have hA3 : w4.H D = some (.lst acc) := ((g3.trans g4).trans g5).h _ _ hA
        have hB3 : w4.B D = none := own_mono ((g3.trans g4).trans g5) hA hB
        have hR3 := hR.mono ((g3.trans g4).trans g5)
        cases kk with
        | false => exact ⟨_, by omega, w4, acc, rs, zs, rfl, g2.trans ((g3.trans g4).trans g5), hA3, hB3, hR3, hok, rfl, hlt, h10, hys⟩
        | true =>
          obtain ⟨y, h11, h12⟩ := Option.bind_eq_some_iff.mp h10
          split at h12
          · rename_i hy1
            obtain ⟨zs', h13, rfl⟩ := Option.map_eq_some_iff.mp h12
            refine ⟨e1, w4, y, rfl, k3.mono g5, h11, fun v w5 g6 r5 => ⟨acc, g6.h _ _ hA3, ?_, _, by omega, ⟨w5.N, w5.B, upd w5.H D (.lst (acc ++ [v])), w5.m⟩, acc ++ [v], rs ++ [y], zs', rfl, ?_, upd_same, own_mono g6 hA3 hB3, ?_, ?_, rfl, hlt, h13, by rw [List.append_assoc]; exact hys⟩⟩
            · have l1 : acc.length = rs.length := hR.length
              have l2 : ys.length ≤ items.length := lcL_len h5
              have l3 : rs.length ≤ ys.length := by rw [← hys]; simp
              exact lim_lt (by omega)
            · have gg := (g2.trans ((g3.trans g4).trans g5)).trans g6
              exact ⟨⟨gg.wf.nb, same_up1 gg.wf.bh (own_mono g6 hA3 hB3)⟩, gg.n, gg.b, same_up1 gg.h hD, gg.fn, gg.fb, gg.m⟩
            · refine RVs.app (rvs_same hok (hR3.mono g6)) ?_
              obtain ⟨t, d⟩ := y
              cases t with
              | N => exact r5
              | B => exact r5
              | T => exact Bool.noConfusion hy1
              | O => exact Bool.noConfusion hy1
            · rw [List.all_append, hok]
              simpa using hy1
          · cases h12
    · have e : i = items.length := by omega
      subst e
      rw [List.drop_length] at hf
      cases hf
      rw [List.append_nil] at hys
      subst hys
      refine .inl ⟨wk.stop w' g2, ?_⟩
      exact q D acc w' (g1.trans g2) (g1.h.free hD) hA hB (rvs_items g2.wf hR)
  · cases h4
end
end Vf
namespace Vf
open PySem L2
theorem XS.blk {X : Cx} (h : XS X) {s : Shared} {H : Hp} {scope : Scope} {ce : Env} {fp : List Addr} : XS (X.blk s H scope ce fp) := ⟨h.calm, h.nd, h.hu⟩
section
variable {X : Cx} {cl : Str → Option Addr} {a b c e tg iter elt : Expr} {es ifs : List Expr} {f g h : FE} {fa fk : FA} {fl : FL} {ct : FT} {A B : FS} {pos : Pos} {fi : FI} {is js : List Nat} {s : TD → Ev → Option Ev} {scope : Scope} {own : List (Str × Nat)}
theorem jl_lc (own : List (Str × Nat)) (hX : XS X) (hi : PI X tg iter (tI Gr (zx X cl) fi)) (ok : blkC X.N X.env.scope scope own = true)
    (hg : ∀ (s' : Shared) (H : Hp) (C : Addr) (l : List (Str × Addr)) (fp : List Addr), PG (X.blk s' H scope (compEnvC scope l C X.env) fp) tg (tG (zx X cl) is s))
    (ht : ∀ (s' : Shared) (H : Hp) (C : Addr) (l : List (Str × Addr)) (fp : List Addr), PTs (X.blk s' H scope (compEnvC scope l C X.env) fp) ifs (tT (zx X cl) ct))
    (he : ∀ (s' : Shared) (H : Hp) (C : Addr) (l : List (Str × Addr)) (fp : List Addr), PE (X.blk s' H scope (compEnvC scope l C X.env) fp) elt (tE (zx X cl) f))
    (hsub : is.all (fun i => (own.map (·.2)).contains i) = true := by rfl) (hs : ∀ x, foldedSetIterable iter X.env x = pure x := by intro _; rfl) :
    PE X (.ListComp elt [⟨tg, iter, ifs, 0⟩] scope pos) (tL (zx X cl) (sLc fi s ct f (own.map (·.2)))) :=
  pe_w (pe_lc hX.calm hX.nd hi (blkOk_by ok) hg ht he hs) fun _ _ _ hh => lc_rd hsub hh
theorem sSet_rd {i : Nat} {D : Ends} {σ : L2.St} {H : Hp} {Z : Zc} (hh : tS Z (sSet i f) D σ H) : tE Z f σ H fun v H1 => D.nx (σ.set i (some v)) H1 := by
  obtain ⟨env, w, out, e, k, hr, q⟩ := hh
  subst e
  obtain ⟨r, h3, h4⟩ := Option.bind_eq_some_iff.mp hr
  obtain ⟨e', h5, rfl⟩ := Option.map_eq_some_iff.mp h4
  exact ⟨env, w, r, rfl, k, h3, fun v w1 g1 r1 => q _ w1 (g1.gs k.wf) (setV_ok (k.mono g1) h5 r1)⟩
theorem sL_rd {σ : L2.St} {H : Hp} {Q : VK} {Z : Zc} (hh : tE Z (sL fl) σ H Q) : tL Z fl σ H Q := by
  obtain ⟨env, w, r, e, k, hr, q⟩ := hh
  obtain ⟨⟨t, ds⟩, h1, h2⟩ := Option.bind_eq_some_iff.mp hr
  dsimp only at h2
  split at h2
  · cases h2
  · rename_i ht
    cases h2
    refine ⟨env, w, t, ds, e, k, h1, ht, fun p vs w' g1 hp hH hB r => ?_⟩
    obtain ⟨w2, g2, e2, r2⟩ := adopt g1 ht hp hH hB r
    rw [← e2]
    exact q _ w2 g2 r2
theorem js_setLc (i : Nat) (own : List (Str × Nat)) {y : Str} {py spos : Pos} (hX : XS X) (hi : PI X tg iter (tI Gr (zx X cl) fi)) (ok : blkC X.N X.env.scope scope own = true)
    (hg : ∀ (s' : Shared) (H : Hp) (C : Addr) (l : List (Str × Addr)) (fp : List Addr), PG (X.blk s' H scope (compEnvC scope l C X.env) fp) tg (tG (zx X cl) is s))
    (ht : ∀ (s' : Shared) (H : Hp) (C : Addr) (l : List (Str × Addr)) (fp : List Addr), PTs (X.blk s' H scope (compEnvC scope l C X.env) fp) ifs (tT (zx X cl) ct))
    (he : ∀ (s' : Shared) (H : Hp) (C : Addr) (l : List (Str × Addr)) (fp : List Addr), PE (X.blk s' H scope (compEnvC scope l C X.env) fp) elt (tE (zx X cl) f))
    (hy : X.N[i]? = some y := by rfl) (hyl : X.env.scope.names.lookup y = some .local := by rfl)
    (hsw : swapsWith (.ListComp elt [⟨tg, iter, ifs, 0⟩] scope pos) (some (.Name y py)) spos.line X.env = pure true := by exact sw_true rfl rfl rfl (by decide +kernel))
    (hsub : is.all (fun i => (own.map (·.2)).contains i) = true := by rfl) (hs : ∀ x, foldedSetIterable iter X.env x = pure x := by intro _; rfl) :
    PS X (.Assign [.Name y py] (.ListComp elt [⟨tg, iter, ifs, 0⟩] scope pos) spos) (tS (zx X cl) (sSet i (sL (sLc fi s ct f (own.map (·.2)))))) :=
  ps_w (ps_setLc hX.calm hX.nd hy hyl hsw hi (blkOk_by ok) hg ht he hs) fun _ _ _ hh => lc_rd hsub (sL_rd (sSet_rd hh))
/-! ### calls -/
def dn (r : TD) : TD := match r.1 with | .N => (.N, r.2) | _ => nm (.B, r.2)
def up (r : TD) : TD := match r.1 with | .N => (.N, r.2) | _ => nm (.T, r.2)
@[simp] def sCall (g : List TD → Option TD) (fa : FA) : FE := fun env => (fa env).bind fun rs => (g (rs.map dn)).map up
/-- the promise of a def: what it is worth, by g; it keeps all that stands -/
def spG (Z : Zc) (g : List TD → Option TD) : Sp := fun vs H Q _ => ∃ N rs r, Same N H ∧ RVs Z ⟨N, H, H, []⟩ rs vs ∧ rs.all (fun r => okT r.1) = true ∧ g rs = some r ∧ okT r.1 = true ∧ ∀ v w', Gr ⟨N, H, H, []⟩ w' → RV Z w' r v → Q v w'.H
theorem nm_ok {t : Tg} {d : D} (h : okT t = true) : okT (nm (t, d)).1 = true := by cases d <;> first | rfl | exact h
theorem dn_ok (r : TD) : okT (dn r).1 = true := by
  obtain ⟨t, d⟩ := r
  cases t <;> first | rfl | exact nm_ok rfl
theorem dn_rv {Z : Zc} {w : Wd} (hw : Wf w) {r : TD} {v : V} (h : RV Z w r v) : RV Z ⟨w.N, w.H, w.H, []⟩ (dn r) v := by
  have wf : Wf ⟨w.N, w.H, w.H, []⟩ := ⟨hw.nh, .refl _⟩
  have hb : RV Z ⟨w.N, w.H, w.H, []⟩ (.B, r.2) v := h.top hw
  obtain ⟨t, d⟩ := r
  cases t with
  | N => exact h
  | B => exact RV.nm wf hb
  | T => exact RV.nm wf hb
  | O => exact RV.nm wf hb
theorem dn_rvs {Z : Zc} {w : Wd} (hw : Wf w) : ∀ {rs : List TD} {vs : List V}, RVs Z w rs vs → RVs Z ⟨w.N, w.H, w.H, []⟩ (rs.map dn) vs
  | [], [], _ => trivial
  | _ :: _, _ :: _, ⟨h, t⟩ => ⟨dn_rv hw h, dn_rvs hw t⟩
  | [], _ :: _, h => h.elim
  | _ :: _, [], h => h.elim
/-- back at the caller -/
theorem up_rv {Z : Zc} {w w' : Wd} (hw : Wf w) (g : Gr ⟨w.N, w.H, w.H, []⟩ w') {r : TD} {v : V} (ho : okT r.1 = true) (h : RV Z w' r v) : ∃ w2, Gr w w2 ∧ w2.H = w'.H ∧ RV Z w2 (up r) v := by
  have key : ∀ x o, w'.N x = some o → w.B x ≠ none → w.B x = some o := fun x o hx hb => by
    cases q : w.B x with
    | none => exact (hb q).elim
    | some u =>
      have h1 := g.h _ _ (hw.bh _ _ q)
      have h2 := g.wf.nh _ _ hx
      exact congrArg some (Option.some.inj (h1.symm.trans h2))
  let B2 : Hp := fun x => match w.B x with | some o => some o | none => w'.N x
  have b1 : Same w.B B2 := fun x o e => by show (match w.B x with | some o => some o | none => w'.N x) = _; rw [e]
  have b2 : Same w'.N B2 := fun x o e => by
    show (match w.B x with | some o => some o | none => w'.N x) = _
    cases q : w.B x with
    | none => exact e
    | some u => exact (q.symm.trans (key x o e (by rw [q]; exact fun z => nomatch z)))
  have b3 : Same B2 w'.H := fun x o e => by
    have e' : (match w.B x with | some o => some o | none => w'.N x) = some o := e
    cases q : w.B x with
    | none =>
      rw [q] at e'
      exact g.wf.nh _ _ e'
    | some u =>
      rw [q] at e'
      cases e'
      exact g.h _ _ (hw.bh _ _ q)
  have b4 : ∀ x, B2 x ≠ none → w.B x ≠ none ∨ w.H x = none := fun x e => by
    cases q : w.B x with
    | some u => exact .inl (fun z => nomatch z)
    | none =>
      have e' : w'.N x ≠ none := fun z => e (by show (match w.B x with | some o => some o | none => w'.N x) = _; rw [q]; exact z)
      rcases g.fn x e' with z | z
      · cases q2 : w.N x with
        | none => exact (z q2).elim
        | some u =>
          have := hw.nb _ _ q2
          rw [q] at this
          cases this
      · exact .inr z
  have gg : Gr w ⟨w'.N, B2, w'.H, w.m⟩ := ⟨⟨b2, b3⟩, g.n, b1, g.h, g.fn, b4, rfl⟩
  refine ⟨⟨w'.N, B2, w'.H, w.m⟩, gg, rfl, ?_⟩
  have ht : RV Z ⟨w'.N, B2, w'.H, w.m⟩ (.T, r.2) v := h.top g.wf
  obtain ⟨t, d⟩ := r
  cases t with
  | N => exact h
  | B => exact RV.nm gg.wf ht
  | T => exact RV.nm gg.wf ht
  | O => exact RV.nm gg.wf ht
variable {k : Nat} {fad : Addr} {fd : FuncData} {ps : List Str} {gg : List TD → Option TD}
theorem sCall_rd {σ : L2.St} {H : Hp} {Q : VK} {Z : Zc} {E : XK} (hok : ∀ rs r, gg rs = some r → okT r.1 = true) (hh : tE Z (sCall gg fa) σ H Q) : tCall (spG Z gg) [] E (tA Z fa) σ H Q := by
  obtain ⟨env, w, r, e, k, hr, q⟩ := hh
  subst e
  obtain ⟨rs, h1, h2⟩ := Option.bind_eq_some_iff.mp hr
  obtain ⟨r0, h3, rfl⟩ := Option.map_eq_some_iff.mp h2
  refine ⟨env, w, rs, rfl, k, h1, fun vs w1 g1 r1 => ?_⟩
  show spG Z gg (vs ++ []) w1.H Q E
  rw [List.append_nil]
  refine ⟨w1.N, rs.map dn, r0, g1.wf.nh, dn_rvs g1.wf r1, ?_, h3, hok _ _ h3, fun v w' g2 r2 => ?_⟩
  · rw [List.all_map, List.all_eq_true]
    exact fun x _ => dn_ok x
  · obtain ⟨w2, g3, e3, r3⟩ := up_rv g1.wf g2 (hok _ _ h3) r2
    rw [← e3]
    exact q v w2 (g1.trans g3) r3
end
/-! ### a def's promise, by its body -/
def fin (o : Out) : Option TD := match o with
  | .rt (.N, d) => some (.N, d)
  | .rt (.B, d) => some (.B, d)
  | .rt (.O, d) => some (.N, d)
  | .rth (.pu d) _ => some (.N, d)
  | .nx _ => some (.N, .non)
  | _ => none
def env0 (n : Nat) (rs : List TD) : Ev := ⟨rs.map (fun r => .val r.1 r.2) ++ List.replicate (n - rs.length) .un, []⟩
theorem wok_start {Z : Zc} {N : Hp} {H : Hp} (hs : Same N H) {names : List Str} {rs : List TD} {vs : List V} (h : RVs Z ⟨N, H, H, []⟩ rs vs) (ho : rs.all (fun r => okT r.1) = true) (hl : rs.length ≤ names.length) : Wok Z (env0 names.length rs) (L2.start names vs) ⟨N, H, H, []⟩ := by
  have hvl := h.length
  refine ⟨⟨hs, .refl _⟩, ?_, fun i s e => ?_, fun i j ds es p hne e1 e2 e3 => ?_, ⟨rfl, List.nodup_nil, fun a h => (by cases h), fun n M h => (by simp [env0] at h)⟩⟩
  · unfold L2.start env0
    simp only [List.length_append, List.length_map, List.length_replicate]
    omega
  · have aux : ∀ (rs : List TD) (vs : List V) (i : Nat) (r : TD), RVs Z ⟨N, H, H, []⟩ rs vs → rs[i]? = some r → ∃ v, vs[i]? = some v ∧ RV Z ⟨N, H, H, []⟩ r v := by
      intro rs
      induction rs with
      | nil => intro vs i r _ e; simp at e
      | cons r0 rs ih =>
        intro vs i r h e
        match vs, h with
        | v :: vs, h =>
          cases i with
          | zero => simp at e; subst e; exact ⟨v, rfl, h.1⟩
          | succ i => simpa using ih vs i r h.2 (by simpa using e)
    unfold env0 at e
    by_cases hi : i < rs.length
    · rw [List.getElem?_append_left (by rw [List.length_map]; exact hi), List.getElem?_map] at e
      obtain ⟨r, h1, rfl⟩ := Option.map_eq_some_iff.mp e
      obtain ⟨v, h2, h3⟩ := aux rs vs i r h h1
      refine ⟨some v, ?_, v, rfl, ?_⟩
      · unfold L2.start
        rw [List.getElem?_append_left (by rw [List.length_map]; omega), List.getElem?_map, h2]
        rfl
      · have hr := List.all_eq_true.mp ho r (List.mem_of_getElem? h1)
        obtain ⟨t, d⟩ := r
        cases t with
        | N => exact .inl ⟨rfl, h3⟩
        | B => exact .inr ⟨rfl, h3⟩
        | T => exact Bool.noConfusion hr
        | O => exact Bool.noConfusion hr
    · rw [List.getElem?_append_right (by rw [List.length_map]; omega)] at e
      have e2 := List.mem_of_getElem? e
      have e3 := List.eq_of_mem_replicate e2
      subst e3
      have hlt : i - (rs.map fun r => Sl.val r.1 r.2).length < names.length - rs.length := by
        have := (List.getElem?_eq_some_iff.mp e).1
        simpa using this
      rw [List.length_map] at hlt
      refine ⟨none, ?_, trivial⟩
      unfold L2.start
      rw [List.getElem?_append_right (by rw [List.length_map]; omega), List.length_map, List.getElem?_replicate]
      rw [if_pos (by omega)]
  · unfold env0 at e1
    rcases List.mem_append.mp (List.mem_of_getElem? e1) with z | z
    · obtain ⟨r, _, q⟩ := List.mem_map.mp z
      cases q
    · cases List.eq_of_mem_replicate z
section
variable {P : Program} {w : World} {K : PySem.W.Frag} {mg : Str → Option Value} {base : Heap} {cl : Str → Option Addr}
theorem ok_def {x qual : Str} {st : Stmt} {f : Addr} {fd : FuncData} {N ps : List Str} {k : Nat} {g : List TD → Option TD} {B : FS} (F : Fun K x qual st f fd) (S : FnScope N ps (defScope st)) (har : ∀ rs r, g rs = some r → rs.length = ps.length)
    (hb : ∀ (cdv : Value) (A : Around) (outer : List Env) (s : Shared) (H : Hp) (E : XK), Room k (A.deeper (PyProof.Rows.envOfC qual (defScope st) s.heap.objs.size f cdv)) → XS (cxOf CX0 P w K mg base N qual (defScope st) f cdv A outer s H E).nox →
      PSs (cxOf CX0 P w K mg base N qual (defScope st) f cdv A outer s H E).nox (defBody st) (tS ⟨K, cl⟩ B))
    (hsem : ∀ rs r, rs.all (fun r => okT r.1) = true → g rs = some r → (B (env0 N.length rs)).bind fin = some r) : FnOk P w K mg base CX0 (k + 1) f fd ps (spG ⟨K, cl⟩ g) := by
  refine F.ok S (fun vs H Q E h => ?_) (fun cdv A outer s H vs Q E hr h => ?_)
  · obtain ⟨N', rs, r, _, h1, _, h2, _⟩ := h
    rw [h1.length, har _ _ h2]
  · obtain ⟨N', rs, r, h0, h1, h2, h3, h4, q⟩ := h
    have hX : XS (cxOf CX0 P w K mg base N qual (defScope st) f cdv A outer s H E).nox := ⟨rfl, S.nd, by have := hr.un; show (A.deeper _).units + 65 < cLine; omega⟩
    refine ⟨_, hb cdv A outer s H E hr hX, ?_⟩
    obtain ⟨out, e1, e2⟩ := Option.bind_eq_some_iff.mp (hsem rs r h2 h3)
    have hle : rs.length ≤ N.length := by
      have := congrArg List.length S.pre
      rw [List.length_take] at this
      have := har _ _ h3
      omega
    refine ⟨env0 N.length rs, ⟨N', H, H, []⟩, out, rfl, wok_start h0 h1 h2 hle, e1, ?_⟩
    cases out with
    | nx e' =>
      cases e2
      exact fun σ' w' gs k' => q .non ⟨w'.N, w'.B, w'.H, []⟩ gs.gr (nN .non rfl)
    | bk e' => cases e2
    | ct e' => cases e2
    | rth x T =>
      cases x with
      | ob n => cases e2
      | pu d =>
        cases e2
        exact fun v w' gs hv _ => q v ⟨w'.N, w'.B, w'.H, []⟩ gs.gr hv
    | rt r0 =>
      obtain ⟨t, d⟩ := r0
      cases t with
      | N =>
        cases e2
        exact fun v w' gs rv => q v ⟨w'.N, w'.B, w'.H, []⟩ gs.gr rv
      | B =>
        cases e2
        exact fun v w' gs rv => q v ⟨w'.N, w'.B, w'.H, []⟩ gs.gr rv
      | T => cases e2
      | O =>
        cases e2
        intro v w' gs rv
        obtain ⟨p, vs', ds, rfl, rfl, a1, a2, a3⟩ := rv
        obtain ⟨w2, g2, e3, r3⟩ := adopt (Z := ⟨K, cl⟩) (t := .N) gs.gr (by decide) (gs.b.free a2) a1 a2 a3
        show Q _ w'.H
        rw [← e3]
        exact q _ w2 g2 r3
end
/-- where a def of the module stands -/
structure Df (K : PySem.W.Frag) (mg : Str → Option Value) (x : Str) (st : Stmt) (f : Addr) (fd : FuncData) : Prop where
  fn : Fun K x x st f fd
  gm : mg x = some (.ref f)
end Vf
namespace Vf
open PySem L2
/-- a def as its callers see it: by name, at most level k, worth g -/
structure Ca (P : Program) (w : World) (K : PySem.W.Frag) (mg : Str → Option Value) (base : Heap) (cl : Str → Option Addr) (k : Nat) (x : Str) (ps : List Str) (g : List TD → Option TD) : Prop where
  ex : ∃ f fd, FnOk P w K mg base CX0 k f fd ps (spG ⟨K, cl⟩ g) ∧ mg x = some (.ref f) ∧ PySem.W.keepIn K (.ref f) = true ∧ Binds K fd ps [] ∧
    ∀ (s : Shared) (us : List Value), us.length = ps.length → BindsTo s fd ⟨[], ps.zip us⟩ (ps.zip us)
  ok : ∀ rs r, g rs = some r → okT r.1 = true
theorem Ca.mono {P : Program} {w : World} {K : PySem.W.Frag} {mg : Str → Option Value} {base : Heap} {cl : Str → Option Addr} {j k : Nat} {x : Str} {ps : List Str} {g : List TD → Option TD} (C : Ca P w K mg base cl j x ps g) (h : j ≤ k) : Ca P w K mg base cl k x ps g := by
  obtain ⟨f, fd, F, r⟩ := C.ex
  exact ⟨⟨f, fd, F.mono h, r⟩, C.ok⟩
section
variable {X : Cx} {cl : Str → Option Addr} {a b c e : Expr} {es : List Expr} {kws : List Keyword} {fa : FA} {pos : Pos} {ps : List Str} {gg : List TD → Option TD} {k j : Nat}
theorem jc {x : Str} {p : Pos} (C : Ca X.prog X.w X.K X.mg X.base cl k x ps gg) (hr : Room j X.A) (ha : PA X (a :: es) (tA (zx X cl) fa)) (hkj : k ≤ j := by decide) (hg : Gl X x := by rfl) (hdb : (x == ("__debug__" : Str)) = false := by decide)
    (he : starEach (a :: es) X.env = (false, eval a X.env) :: starEach es X.env := by rfl) (hpl : (backTo pos (starEach es X.env)).any (·.1) = false := by rfl) : PE X (.Call (.Name x p) (a :: es) [] pos) (tE (zx X cl) (sCall gg fa)) := by
  obtain ⟨f, fd, F, hm, hk, hb, _⟩ := C.ex
  exact pe_w (pe_call F (hr.mono hkj) hg hm hk hb .nil pass0 ha hdb he hpl) fun _ _ _ hh => sCall_rd C.ok hh
end
section
variable {P : Program} {w : World} {K : PySem.W.Frag} {mg : Str → Option Value} {base : Heap} {cl : Str → Option Addr}
theorem ca_def {x : Str} {st : Stmt} {f : Addr} {fd : FuncData} {N ps : List Str} {k : Nat} {g : List TD → Option TD} {B : FS} (D : Df K mg x st f fd) (S : FnScope N ps (defScope st)) (har : ∀ rs r, g rs = some r → rs.length = ps.length)
    (hok : ∀ rs r, g rs = some r → okT r.1 = true)
    (hbi : Binds K fd ps []) (hbk : ∀ (s : Shared) (us : List Value), us.length = ps.length → BindsTo s fd ⟨[], ps.zip us⟩ (ps.zip us))
    (hb : ∀ (cdv : Value) (A : Around) (outer : List Env) (s : Shared) (H : Hp) (E : XK), Room k (A.deeper (PyProof.Rows.envOfC x (defScope st) s.heap.objs.size f cdv)) → XS (cxOf CX0 P w K mg base N x (defScope st) f cdv A outer s H E).nox →
      PSs (cxOf CX0 P w K mg base N x (defScope st) f cdv A outer s H E).nox (defBody st) (tS ⟨K, cl⟩ B))
    (hsem : ∀ rs r, rs.all (fun r => okT r.1) = true → g rs = some r → (B (env0 N.length rs)).bind fin = some r) : Ca P w K mg base cl (k + 1) x ps g :=
  ⟨⟨f, fd, ok_def D.fn S har hb hsem, D.gm, D.fn.kp, hbi, hbk⟩, hok⟩
/-- how keywords bind: h is «fun _ _ _ _ _ _ us hl => match us, hl with | [_, _], _ => rfl» -/
theorem kb_of {x qual : Str} {st : Stmt} {f : Addr} {fd : FuncData} {ps : List Str} (F : Fun K x qual st f fd)
    (h : ∀ (kV doc pm : Value) (an : Option Addr) (cdv ct : Value) (us : List Value), us.length = ps.length → bindArgs (PySem.W.fnOf x qual (defArgs st) (defBody st) (defScope st) .none kV doc pm an cdv ct) ⟨[], ps.zip us⟩ = pure (ps.zip us)) :
    ∀ (s : Shared) (us : List Value), us.length = ps.length → BindsTo s fd ⟨[], ps.zip us⟩ (ps.zip us) := by
  obtain ⟨oc, od, kV, doc, pm, an, cdv, ct, osl, rfl, lk, hcd⟩ := F.ex
  exact fun s us hl => .of_eq (h kV doc pm an cdv ct us hl)
end
def LawOk (ns : List Int) : Prop := ns.length ≤ 63 ∧ ∀ z ∈ ns, Builtin.Int.intBits z ≤ 1048576
end Vf
namespace Vf
open PySem L2
/-! what the simplifier may use: each worth at data that are known -/
section
variable {t u : Tg} {i j : Int} {x y z : Str} {b k : Bool} {xs ys ds : List D} {d : D} {e env : Ev} {n : Nat} {f g : FE} {A B : FS} {r : TD} {rs : List TD}
@[simp] theorem nm_int : nm (t, .int i) = (.N, .int i) := rfl
@[simp] theorem nm_str : nm (t, .str x) = (.N, .str x) := rfl
@[simp] theorem nm_bl : nm (t, .bl b) = (.N, .bl b) := rfl
@[simp] theorem nm_non : nm (t, .non) = (.N, .non) := rfl
@[simp] theorem nm_lst : nm (t, .lst xs) = (t, .lst xs) := rfl
@[simp] theorem nm_scr : nm (t, .scr xs) = (t, .scr xs) := rfl
@[simp] theorem nm_tup : nm (t, .tup xs) = (t, .tup xs) := rfl
@[simp] theorem el_N : el .N = .N := rfl
@[simp] theorem el_B : el .B = .B := rfl
@[simp] theorem el_T : el .T = .T := rfl
@[simp] theorem el_O : el .O = .N := rfl
@[simp] theorem mt2_NN : mt2 .N .N = .N := rfl
@[simp] theorem mt2_NB : mt2 .N .B = .B := rfl
@[simp] theorem mt2_BN : mt2 .B .N = .B := rfl
@[simp] theorem mt2_BB : mt2 .B .B = .B := rfl
@[simp] theorem nm_N : nm (.N, d) = (.N, d) := by cases d <;> rfl
@[simp] theorem dn_N : dn (.N, d) = (.N, d) := rfl
@[simp] theorem dn_B : dn (.B, d) = nm (.B, d) := rfl
@[simp] theorem dn_T : dn (.T, d) = nm (.B, d) := rfl
@[simp] theorem dn_O : dn (.O, d) = nm (.B, d) := rfl
@[simp] theorem up_N : up (.N, d) = (.N, d) := rfl
@[simp] theorem up_B : up (.B, d) = nm (.T, d) := rfl
@[simp] theorem okT_N : okT .N = true := rfl
@[simp] theorem okT_B : okT .B = true := rfl
@[simp] theorem fin_rtN : fin (.rt (.N, d)) = some (.N, d) := rfl
@[simp] theorem fin_rtB : fin (.rt (.B, d)) = some (.B, d) := rfl
@[simp] theorem fin_rtO : fin (.rt (.O, d)) = some (.N, d) := rfl
@[simp] theorem fin_nx : fin (.nx e) = some (.N, .non) := rfl
@[simp] theorem thenO_nx : thenO (.nx e) B = B e := rfl
@[simp] theorem thenO_rt : thenO (.rt r) B = some (.rt r) := rfl
@[simp] theorem thenO_bk : thenO (.bk e) B = some (.bk e) := rfl
@[simp] theorem thenO_ct : thenO (.ct e) B = some (.ct e) := rfl
@[simp] theorem asB_bl : asB (t, .bl b) = some b := rfl
@[simp] theorem tru_bl : tru (t, .bl b) = some b := rfl
@[simp] theorem tru_int : tru (t, .int i) = some (i != 0) := rfl
@[simp] theorem tru_non : tru (t, .non) = some false := rfl
@[simp] theorem tru_lst : tru (t, .lst xs) = some (!xs.isEmpty) := rfl
@[simp] theorem tru_tup : tru (t, .tup xs) = some (!xs.isEmpty) := rfl
@[simp] theorem tru_scr : tru (t, .scr xs) = some (!xs.isEmpty) := rfl
@[simp] theorem oAdd_int : oAdd (t, .int i) (u, .int j) = some (.N, .int (i + j)) := rfl
theorem oAdd_str (h : x.length + y.length ≤ lim) : oAdd (t, .str x) (u, .str y) = some (.N, .str (x ++ y)) := if_pos h
@[simp] theorem oSub_int : oSub (t, .int i) (u, .int j) = some (.N, .int (i - j)) := rfl
theorem oMul_int (h : bitsOk i j = true) : oMul (t, .int i) (u, .int j) = some (.N, .int (i * j)) := cif_pos h
theorem oMul_lst (h : i.natAbs ≤ lim ∧ xs.length * i.toNat ≤ lim) : oMul (t, .lst xs) (u, .int i) = some (el t, .lst (List.replicate i.toNat xs).flatten) := cif_pos h
theorem oFd_int (h : 0 < j ∧ j < 18446744073709551616) : oFd (t, .int i) (u, .int j) = some (.N, .int (i / j)) := cif_pos h
theorem oMod_int (h : 0 < j) : oMod (t, .int i) (u, .int j) = some (.N, .int (i % j)) := cif_pos h
theorem oPow_int (h : 0 ≤ j ∧ j ≤ 1000000 ∧ i.natAbs < 18446744073709551616) : oPow (t, .int i) (u, .int j) = some (.N, .int (i ^ j.toNat)) := cif_pos h
@[simp] theorem eqD_int : eqD (.int i) (.int j) = some (decide (i = j)) := rfl
@[simp] theorem eqD_str : eqD (.str x) (.str y) = some (decide (x = y)) := rfl
@[simp] theorem eqD_bl : eqD (.bl b) (.bl k) = some (decide (b = k)) := rfl
@[simp] theorem oEq_d : oEq (t, d) r = (eqD d r.2).map fun k => (.N, .bl k) := rfl
@[simp] theorem oNe_d : oNe (t, d) r = (eqD d r.2).map fun k => (.N, .bl (!k)) := rfl
@[simp] theorem oLt_int : oLt (t, .int i) (u, .int j) = some (.N, .bl (decide (i < j))) := by show some (Tg.N, D.bl (cdec (i < j))) = _; rw [cdec_eq]
@[simp] theorem oGt_int : oGt (t, .int i) (u, .int j) = some (.N, .bl (decide (j < i))) := by show some (Tg.N, D.bl (cdec (j < i))) = _; rw [cdec_eq]
@[simp] theorem oGe_int : oGe (t, .int i) (u, .int j) = some (.N, .bl (decide (j ≤ i))) := by show some (Tg.N, D.bl (cdec (j ≤ i))) = _; rw [cdec_eq]
@[simp] theorem oIs_bl : oIs (t, .bl b) (u, .bl k) = some (.N, .bl (decide (b = k))) := rfl
@[simp] theorem oIsN_bl : oIsN (t, .bl b) (u, .bl k) = some (.N, .bl (!decide (b = k))) := rfl
@[simp] theorem oIs_nn : oIs (t, .non) (u, .non) = some (.N, .bl true) := rfl
@[simp] theorem oIsN_nn : oIsN (t, .non) (u, .non) = some (.N, .bl false) := rfl
@[simp] theorem oIs_in : oIs (t, .int i) (u, .non) = some (.N, .bl false) := rfl
@[simp] theorem oIsN_in : oIsN (t, .int i) (u, .non) = some (.N, .bl true) := rfl
@[simp] theorem oIs_sn : oIs (t, .str x) (u, .non) = some (.N, .bl false) := rfl
@[simp] theorem oIsN_sn : oIsN (t, .str x) (u, .non) = some (.N, .bl true) := rfl
@[simp] theorem oIs_ln : oIs (t, .lst xs) (u, .non) = some (.N, .bl false) := rfl
@[simp] theorem oIsN_ln : oIsN (t, .lst xs) (u, .non) = some (.N, .bl true) := rfl
@[simp] theorem oIs_tn : oIs (t, .tup xs) (u, .non) = some (.N, .bl false) := rfl
@[simp] theorem oIsN_tn : oIsN (t, .tup xs) (u, .non) = some (.N, .bl true) := rfl
theorem oIx_lst (h : atI xs i = some d) : oIx (t, .lst xs) (u, .int i) = some (nm (el t, d)) := by show (atI xs i).map _ = _; rw [h]; rfl
theorem oIx_scr (h : atI xs i = some d) : oIx (t, .scr xs) (u, .int i) = some (nm (el t, d)) := by show (atI xs i).map _ = _; rw [h]; rfl
@[simp] theorem lenB_lst : lenB [(t, .lst xs)] = some (.N, .int xs.length) := rfl
@[simp] theorem lenB_scr : lenB [(t, .scr xs)] = some (.N, .int xs.length) := rfl
@[simp] theorem lenB_tup : lenB [(t, .tup xs)] = some (.N, .int xs.length) := rfl
@[simp] theorem intB_int : intB [(t, .int i)] = some (.N, .int i) := rfl
@[simp] theorem intB_bl : intB [(t, .bl b)] = some (.N, .int (if b then 1 else 0)) := rfl
@[simp] theorem tupB_lst : tupB [(t, .lst xs)] = some (el t, .tup xs) := rfl
@[simp] theorem tupB_scr : tupB [(t, .scr xs)] = some (el t, .tup xs) := rfl
@[simp] theorem tupB_tup : tupB [(t, .tup xs)] = some (t, .tup xs) := rfl
@[simp] theorem listB_lst : listB [(t, .lst xs)] = some (el t, xs) := rfl
@[simp] theorem listB_scr : listB [(t, .scr xs)] = some (el t, xs) := rfl
@[simp] theorem listB_tup : listB [(t, .tup xs)] = some (el t, xs) := rfl
@[simp] theorem isiD_int {T : String} : isiD (.int i) T = kitB "int" T := rfl
@[simp] theorem isiD_bl {T : String} : isiD (.bl b) T = kitB "bool" T := rfl
@[simp] theorem isiD_str {T : String} : isiD (.str x) T = kitB "str" T := rfl
@[simp] theorem isiD_non {T : String} : isiD .non T = kitB "NoneType" T := rfl
@[simp] theorem isiD_lst {T : String} : isiD (.lst xs) T = kitB "list" T := rfl
@[simp] theorem isiD_scr {T : String} : isiD (.scr xs) T = kitB "list" T := rfl
@[simp] theorem isiD_tup {T : String} : isiD (.tup xs) T = kitB "tuple" T := rfl
@[simp] theorem itemsOf_Nl : itemsOf (.N, .lst xs) = some (xs.map fun d => nm (.N, d)) := rfl
@[simp] theorem itemsOf_Bl : itemsOf (.B, .lst xs) = some (xs.map fun d => nm (.B, d)) := rfl
@[simp] theorem itemsOf_Ns : itemsOf (.N, .scr xs) = some (xs.map fun d => nm (.N, d)) := rfl
@[simp] theorem itemsOf_Bs : itemsOf (.B, .scr xs) = some (xs.map fun d => nm (.B, d)) := rfl
@[simp] theorem itemsOf_Nt : itemsOf (.N, .tup xs) = some (xs.map fun d => nm (.N, d)) := rfl
@[simp] theorem itemsOf_Bt : itemsOf (.B, .tup xs) = some (xs.map fun d => nm (.B, d)) := rfl
@[simp] theorem itemsR_l : itemsR (t, .lst xs) = some (xs.map fun d => nm (el t, d)) := rfl
@[simp] theorem itemsR_s : itemsR (t, .scr xs) = some (xs.map fun d => nm (el t, d)) := rfl
@[simp] theorem itemsR_t : itemsR (t, .tup xs) = some (xs.map fun d => nm (el t, d)) := rfl
@[simp] theorem signsOf_s : signsOf (t, .str z) = some (z.cps.toList.map fun c => (.N, .str ⟨#[c]⟩)) := rfl
@[simp] theorem unp_t : unp (t, .tup xs) = some (xs.map fun d => nm (el t, d)) := rfl
@[simp] theorem unp_l : unp (t, .lst xs) = some (xs.map fun d => nm (el t, d)) := rfl
@[simp] theorem setCons_cons {s : TD → Ev → Option Ev} {l : List TD → Ev → Option Ev} : setCons s l (r :: rs) env = (s r env).bind fun e => l rs e := rfl
def setL (i : Nat) (r : TD) (l : List Sl) : Option (List Sl) := if i < l.length then (match r.1 with
  | .N => some (l.set i (.val .N r.2))
  | .B => some (l.set i (.val .B r.2))
  | _ => none) else none
@[simp] theorem setV_mk {l : List Sl} {T : Tb} : setV n r ⟨l, T⟩ = (setL n r l).map fun l' => ⟨l', T⟩ := by
  obtain ⟨t, d⟩ := r
  unfold setV setL
  by_cases h : n < l.length
  · rw [if_pos h, if_pos h]
    cases t <;> rfl
  · rw [if_neg h, if_neg h]
    rfl
@[simp] theorem put_mk {l : List Sl} {T : Tb} {x : Sl} : Ev.put ⟨l, T⟩ n x = ⟨l.set n x, T⟩ := rfl
@[simp] theorem setL_0N {s : Sl} {l : List Sl} : setL 0 (.N, d) (s :: l) = some (.val .N d :: l) := rfl
@[simp] theorem setL_0B {s : Sl} {l : List Sl} : setL 0 (.B, d) (s :: l) = some (.val .B d :: l) := rfl
@[simp] theorem setL_s {s : Sl} {l : List Sl} : setL (n + 1) r (s :: l) = (setL n r l).map fun e => s :: e := by
  obtain ⟨t, d⟩ := r
  unfold setL
  by_cases h : n < l.length
  · rw [if_pos h, if_pos (by simpa using h)]
    cases t <;> rfl
  · rw [if_neg h, if_neg (by simpa using h)]
    rfl
@[simp] theorem cell_N : cell .N = .N := rfl
@[simp] theorem cell_B : cell .B = .B := rfl
@[simp] theorem cell_T : cell .T = .T := rfl
@[simp] theorem cell_O : cell .O = .T := rfl
@[simp] theorem tagL_nil : tagL [] = .N := rfl
@[simp] theorem tagL_cons : tagL (r :: rs) = mt2 (cell r.1) (tagL rs) := rfl
theorem tagL_N : ∀ {rs : List TD}, (∀ r ∈ rs, r.1 = .N) → tagL rs = .N
  | [], _ => rfl
  | r :: rs, h => by
    rw [tagL_cons, h r List.mem_cons_self, tagL_N fun x hx => h x (List.mem_cons_of_mem _ hx)]
    rfl
@[simp] theorem sVar_0v {l : List Sl} {T : Tb} : sVar 0 ⟨.val t d :: l, T⟩ = some (nm (t, d)) := rfl
@[simp] theorem sVar_0o {l : List Sl} {T : Tb} : sVar 0 ⟨.own ds :: l, T⟩ = some (.O, .lst ds) := rfl
@[simp] theorem sVar_s {s : Sl} {l : List Sl} {T : Tb} : sVar (n + 1) ⟨s :: l, T⟩ = sVar n ⟨l, T⟩ := rfl
@[simp] theorem forL_nil {s : TD → Ev → Option Ev} : forL A s [] env = some (.nx env) := rfl
def loopK (A : FS) (s : TD → Ev → Option Ev) (rs : List TD) : Out → Option Out
  | .nx e' => forL A s rs e'
  | .ct e' => forL A s rs e'
  | .bk e' => some (.nx e')
  | .rt r => some (.rt r)
  | .rth x T => some (.rth x T)
theorem forL_cons {s : TD → Ev → Option Ev} : forL A s (r :: rs) env = (s r env).bind fun e => (A e).bind (loopK A s rs) := rfl
@[simp] theorem loopK_nx {s : TD → Ev → Option Ev} : loopK A s rs (.nx e) = forL A s rs e := rfl
@[simp] theorem loopK_ct {s : TD → Ev → Option Ev} : loopK A s rs (.ct e) = forL A s rs e := rfl
@[simp] theorem loopK_bk {s : TD → Ev → Option Ev} : loopK A s rs (.bk e) = some (.nx e) := rfl
@[simp] theorem loopK_rt {s : TD → Ev → Option Ev} : loopK A s rs (.rt r) = some (.rt r) := rfl
/-- one turn that goes on -/
theorem forL_step {s : TD → Ev → Option Ev} {e1 e2 : Ev} (h1 : s r env = some e1) (h2 : A e1 = some (.nx e2)) : forL A s (r :: rs) env = forL A s rs e2 := by
  rw [forL_cons, h1]
  show (A e1).bind _ = _
  rw [h2]
  rfl
def appR (n : Nat) (env : Ev) (ds : List D) (r : TD) : Option Out := match r.1 with
  | .N => if ds.length ≤ lim then some (.nx (env.put n (.own (ds ++ [r.2])))) else none
  | _ => none
def appK (n : Nat) (f : FE) (env : Ev) : Sl → Option Out
  | .own ds => (f env).bind (appR n env ds)
  | _ => none
@[simp] theorem sApp_eq : sApp n f env = (env.s[n]?).bind (appK n f env) := by
  unfold sApp
  cases env.s[n]? with
  | none => rfl
  | some s => cases s <;> rfl
@[simp] theorem appK_own : appK n f env (.own ds) = (f env).bind (appR n env ds) := rfl
theorem appR_N (h : ds.length ≤ lim) : appR n env ds (.N, d) = some (.nx (env.put n (.own (ds ++ [d])))) := if_pos h
def extR (n : Nat) (env : Ev) (ds : List D) (r : TD) : Option Out := match r.1, r.2 with
  | .N, .lst es => if ds.length + es.length ≤ lim then some (.nx (env.put n (.own (ds ++ es)))) else none
  | _, _ => none
def extK (n : Nat) (f : FE) (env : Ev) : Sl → Option Out
  | .own ds => (f env).bind (extR n env ds)
  | _ => none
@[simp] theorem sExt_eq : sExt n f env = (env.s[n]?).bind (extK n f env) := by
  unfold sExt
  cases env.s[n]? with
  | none => rfl
  | some s => cases s <;> rfl
@[simp] theorem extK_own : extK n f env (.own ds) = (f env).bind (extR n env ds) := rfl
def ownK (n : Nat) (env : Ev) (r : Tg × List D) : Option Out := if n < env.s.length then (match r.1 with
  | .N => some (.nx (env.put n (.own r.2)))
  | _ => none) else none
@[simp] theorem sOwn_eq {fl : FL} : sOwn n fl env = (fl env).bind (ownK n env) := rfl
@[simp] theorem ownK_N (h : n < env.s.length) : ownK n env (.N, ds) = some (.nx (env.put n (.own ds))) := if_pos h
def frzK (n : Nat) (env : Ev) : Sl → Option Out
  | .own ds => some (.nx (env.put n (.val .N (.lst ds))))
  | _ => some (.nx env)
@[simp] theorem sFrz_eq : sFrz n env = (env.s[n]?).bind (frzK n env) := by
  unfold sFrz
  cases env.s[n]? with
  | none => rfl
  | some s => cases s <;> rfl
@[simp] theorem frzK_own : frzK n env (.own ds) = some (.nx (env.put n (.val .N (.lst ds)))) := rfl
@[simp] theorem frzK_val : frzK n env (.val t d) = some (.nx env) := rfl
@[simp] theorem sR1_eq : sR1 f env = (f env).bind r1K := rfl
theorem r1K_int (h : j < 4611686018427387904 ∧ -4611686018427387904 ≤ j) : r1K (t, .int j) = some (iRng j.toNat 0) := cif_pos h
@[simp] theorem sR2_eq : sR2 f g env = (f env).bind fun r => (g env).bind fun r' => r2K r r' := rfl
def ptK (r : TD) : Option (Option Int) := match r.2 with | .int i => some (some i) | _ => none
@[simp] theorem sPt_eq : sPt f env = (f env).bind ptK := rfl
@[simp] theorem ptK_int : ptK (t, .int i) = some (some i) := rfl
theorem sSeq_nx {e2 : Ev} (h : A env = some (.nx e2)) : sSeq A B env = B e2 := by unfold sSeq; rw [h]; rfl
theorem sSeq_rt (h : A env = some (.rt r)) : sSeq A B env = some (.rt r) := by unfold sSeq; rw [h]; rfl
theorem sFor_at {fi : FI} {s : TD → Ev → Option Ev} {items : List TD} (h : fi env = some items) : sFor fi s A env = forL A s items env := by unfold sFor; rw [h]; rfl
theorem sIf_t {c : FT} (h : c env = some true) : sIf c A B env = A env := by unfold sIf; rw [h]; rfl
theorem sIf_f {c : FT} (h : c env = some false) : sIf c A B env = B env := by unfold sIf; rw [h]; rfl
@[simp] theorem slD_tup {lo hi : Option Int} : slD (t, .tup xs) lo hi = some (el t, .tup (cutD xs lo hi)) := rfl
@[simp] theorem itemsRev_Nl : itemsRev (.N, .lst xs) = some (xs.reverse.map fun d => nm (.N, d)) := rfl
@[simp] theorem itemsRev_Bl : itemsRev (.B, .lst xs) = some (xs.reverse.map fun d => nm (.B, d)) := rfl
@[simp] theorem itemsRev_Nt : itemsRev (.N, .tup xs) = some (xs.reverse.map fun d => nm (.N, d)) := rfl
@[simp] theorem itemsRev_Bt : itemsRev (.B, .tup xs) = some (xs.reverse.map fun d => nm (.B, d)) := rfl
def augK (g : Int → Int → Int) (i : Nat) (env : Ev) (a b : TD) : Option Out := match a.2, b.2 with
  | .int x, .int y => (setV i (.N, .int (g x y)) env).map .nx
  | _, _ => none
@[simp] theorem augI_eq {g : Int → Int → Int} : augI g n f env = (sVar n env).bind fun a => (f env).bind fun b => augK g n env a b := rfl
@[simp] theorem augK_int {g : Int → Int → Int} : augK g n env (t, .int i) (u, .int j) = (setV n (.N, .int (g i j)) env).map .nx := rfl
@[simp] theorem slD_lst {lo hi : Option Int} : slD (t, .lst xs) lo hi = some (el t, .lst (cutD xs lo hi)) := rfl
@[simp] theorem env0_1 {a : TD} : env0 n [a] = ⟨.val a.1 a.2 :: List.replicate (n - 1) .un, []⟩ := rfl
@[simp] theorem env0_2 {a b : TD} : env0 n [a, b] = ⟨.val a.1 a.2 :: .val b.1 b.2 :: List.replicate (n - 2) .un, []⟩ := rfl
@[simp] theorem env0_3 {a b c : TD} : env0 n [a, b, c] = ⟨.val a.1 a.2 :: .val b.1 b.2 :: .val c.1 c.2 :: List.replicate (n - 3) .un, []⟩ := rfl
@[simp] theorem env0_0 : env0 n [] = ⟨List.replicate n .un, []⟩ := rfl
@[simp] theorem env0_4 {a b c d : TD} : env0 n [a, b, c, d] = ⟨.val a.1 a.2 :: .val b.1 b.2 :: .val c.1 c.2 :: .val d.1 d.2 :: List.replicate (n - 4) .un, []⟩ := rfl
end
end Vf
namespace Lw
open PySem L2 Vf
/-! what is handed back may be handed on -/
def gN (h : List TD → Option D) : List TD → Option TD := fun rs => (h rs).map fun d => (.N, d)
theorem gN_ok {h : List TD → Option D} (rs : List TD) (r : TD) (e : gN h rs = some r) : okT r.1 = true := by
  obtain ⟨d, _, rfl⟩ := Option.map_eq_some_iff.mp e
  rfl
theorem gN_len {h : List TD → Option D} {n : Nat} (hl : ∀ rs d, h rs = some d → rs.length = n) (rs : List TD) (r : TD) (e : gN h rs = some r) : rs.length = n := by
  obtain ⟨d, q, _⟩ := Option.map_eq_some_iff.mp e
  exact hl rs d q
theorem gN_sem {h : List TD → Option D} {F : FS} {n : Nat} (hs : ∀ rs d, rs.all (fun r => okT r.1) = true → h rs = some d → (F (env0 n rs)).bind fin = some (.N, d)) (rs : List TD) (r : TD) (ha : rs.all (fun r => okT r.1) = true) (e : gN h rs = some r) : (F (env0 n rs)).bind fin = some r := by
  obtain ⟨d, q, rfl⟩ := Option.map_eq_some_iff.mp e
  exact hs rs d ha q
theorem gN_of {h : List TD → Option D} {rs : List TD} {d : D} (e : h rs = some d) : gN h rs = some (.N, d) := by
  unfold gN
  rw [e]
  rfl
/-! lists of ints -/
def intsOf : List D → Option (List Int)
  | [] => some []
  | .int i :: r => (intsOf r).map (i :: ·)
  | _ :: _ => none
theorem intsOf_map : ∀ ns : List Int, intsOf (ns.map D.int) = some ns
  | [] => rfl
  | n :: ns => by
    rw [List.map_cons]
    show (intsOf (ns.map D.int)).map (n :: ·) = _
    rw [intsOf_map ns]
    rfl
theorem intsOf_some : ∀ {ds : List D} {ns : List Int}, intsOf ds = some ns → ds = ns.map D.int
  | [], ns, h => by cases h; rfl
  | .int i :: r, ns, h => by
    obtain ⟨ms, h1, rfl⟩ := Option.map_eq_some_iff.mp h
    rw [List.map_cons, intsOf_some h1]
  | .non :: _, _, h => by cases h
  | .bl _ :: _, _, h => by cases h
  | .str _ :: _, _, h => by cases h
  | .lst _ :: _, _, h => by cases h
  | .scr _ :: _, _, h => by cases h
  | .tup _ :: _, _, h => by cases h
  | .ins _ _ _ :: _, _, h => by cases h
  | .dic _ _ :: _, _, h => by cases h
  | .exn _ _ _ :: _, _, h => by cases h
/-! sizes of ints -/
theorem bits_of {i : Int} {n : Nat} (h : i.natAbs < 2 ^ n) : Builtin.Int.intBits i ≤ n := PySem.intBits_le_iff.mpr h
theorem bits_ok {i j : Int} {m n : Nat} (hi : Builtin.Int.intBits i ≤ m) (hj : Builtin.Int.intBits j ≤ n) (h : m + n ≤ 134217728) : bitsOk i j = true := decide_eq_true (by omega)
theorem bits64 {i : Int} (h1 : -18446744073709551616 < i) (h2 : i < 18446744073709551616) : Builtin.Int.intBits i ≤ 64 := bits_of (by omega)
theorem bits_sm {i j : Int} (h1 : -18446744073709551616 < i) (h2 : i < 18446744073709551616) (h3 : -18446744073709551616 < j) (h4 : j < 18446744073709551616) : bitsOk i j = true := bits_ok (bits64 h1 h2) (bits64 h3 h4) (by decide)
theorem bits_smr {i j : Int} {m : Nat} (hi : Builtin.Int.intBits i ≤ m) (hm : m ≤ 134217000) (h3 : -18446744073709551616 < j) (h4 : j < 18446744073709551616) : bitsOk i j = true := bits_ok hi (bits64 h3 h4) (by omega)
/-! lookups -/
theorem atI_map {α : Type} {f : α → D} {xs : List α} {j : Nat} (h : j < xs.length) : atI (xs.map f) (j : Int) = some (f xs[j]) := by
  refine atI_nat ?_
  rw [List.getElem?_map, List.getElem?_eq_getElem h]
  rfl
end Lw
namespace Lw
open PySem L2 Vf
@[simp] theorem kit1 : kitB "int" "int" = some true := by decide +kernel
@[simp] theorem kit2 : kitB "int" "bool" = some false := by decide +kernel
@[simp] theorem kit3 : kitB "bool" "int" = some true := by decide +kernel
@[simp] theorem kit4 : kitB "bool" "bool" = some true := by decide +kernel
@[simp] theorem kit5 : kitB "str" "int" = some false := by decide +kernel
@[simp] theorem kit6 : kitB "str" "bool" = some false := by decide +kernel
@[simp] theorem kit7 : kitB "str" "str" = some true := by decide +kernel
@[simp] theorem kit8 : kitB "NoneType" "int" = some false := by decide +kernel
@[simp] theorem kit9 : kitB "NoneType" "bool" = some false := by decide +kernel
@[simp] theorem kit10 : kitB "tuple" "tuple" = some true := by decide +kernel
@[simp] theorem kit11 : kitB "list" "tuple" = some false := by decide +kernel
@[simp] theorem kit12 : kitB "list" "list" = some true := by decide +kernel
@[simp] theorem kit13 : kitB "tuple" "list" = some false := by decide +kernel
@[simp] theorem kit14 : kitB "int" "tuple" = some false := by decide +kernel
@[simp] theorem kit15 : kitB "str" "tuple" = some false := by decide +kernel
@[simp] theorem kit16 : kitB "int" "str" = some false := by decide +kernel
@[simp] theorem kit17 : kitB "NoneType" "tuple" = some false := by decide +kernel
@[simp] theorem kit18 : kitB "NoneType" "str" = some false := by decide +kernel
@[simp] theorem kit19 : kitB "bool" "str" = some false := by decide +kernel
@[simp] theorem kit20 : kitB "tuple" "str" = some false := by decide +kernel
@[simp] theorem kit21 : kitB "list" "str" = some false := by decide +kernel
@[simp] theorem kit22 : kitB "tuple" "int" = some false := by decide +kernel
@[simp] theorem kit23 : kitB "list" "int" = some false := by decide +kernel
/-! _law_whole -/
def h_law_whole (rs : List TD) : Option D := match rs with
  | [(_, .int _)] => some (.bl true)
  | [(_, .bl _)] => some (.bl false)
  | [(_, .str _)] => some (.bl false)
  | [(_, .non)] => some (.bl false)
  | _ => none
abbrev g_law_whole := gN h_law_whole
abbrev N_law_whole : List Str := ["value"]
noncomputable def F_law_whole : FS := (sRet (sAndV (sIsi "int" (sVar 0)) (sNotV (sIsi "bool" (sVar 0)))))
theorem sem_law_whole : ∀ rs r, rs.all (fun r => okT r.1) = true → g_law_whole rs = some r → (F_law_whole (env0 N_law_whole.length rs)).bind fin = some r := gN_sem (by
  intro rs d ha h
  unfold h_law_whole at h
  split at h <;> cases h <;> simp [F_law_whole])
theorem len_law_whole : ∀ rs r, g_law_whole rs = some r → rs.length = 1 := gN_len (by
  intro rs d h
  unfold h_law_whole at h
  split at h <;> cases h <;> rfl)
theorem okt_law_whole : ∀ rs r, g_law_whole rs = some r → okT r.1 = true := gN_ok
/-! _law_cell -/
def seedF (s : Int) (ns : List Int) : Int := ns.foldl (fun s c => (s * 31 + c % 1000003) % 1000003) s
def seedM (ns : List Int) : Int := seedF 17 ns
def cellM (ns : List Int) (k : Nat) : Int := if h : k < ns.length then ns[k] else ((seedM ns + 7) * ((k : Int) + 3) * 69621) % 2147483647
theorem seedM_bd : ∀ (ns : List Int), 0 ≤ seedM ns ∧ seedM ns < 1000003 := by
  have aux : ∀ (ns : List Int) (s : Int), 0 ≤ s ∧ s < 1000003 → 0 ≤ ns.foldl (fun s c => (s * 31 + c % 1000003) % 1000003) s ∧ ns.foldl (fun s c => (s * 31 + c % 1000003) % 1000003) s < 1000003 := by
    intro ns
    induction ns with
    | nil => intro s h; exact h
    | cons n ns ih =>
      intro s h
      rw [List.foldl_cons]
      exact ih _ (by omega)
  exact fun ns => aux ns 17 (by decide)
open Classical in
noncomputable def h_law_cell (rs : List TD) : Option D := match rs with
  | [(_, .scr ds), (_, .int k)] => (intsOf ds).bind fun ns => if LawOk ns ∧ 0 ≤ k ∧ k < 1000000 then some (.int (cellM ns k.toNat)) else none
  | _ => none
noncomputable abbrev g_law_cell := gN h_law_cell
theorem g_law_cell_at {t u : Tg} {ns : List Int} {k : Nat} (h : LawOk ns) (hk : k < 1000000) : g_law_cell [(t, .scr (ns.map D.int)), (u, .int (k : Int))] = some (.N, .int (cellM ns k)) := by
  refine gN_of ?_
  unfold h_law_cell
  simp only [intsOf_map, Option.bind_some]
  rw [if_pos ⟨h, by omega, by omega⟩]
  rfl
abbrev N_law_cell : List Str := ["script", "k", "seed", "cell"]
noncomputable def F_law_cell : FS := (sSeq (sIf (sBl (sOp oLt (sVar 1) (sB lenB (sCons (sVar 0) sNil))))
  (sRet (sOp oIx (sVar 0) (sVar 1)))
  sNx) (sSeq (sSet 2 (sLit (.int 17))) (sSeq (sFor (sIt (sVar 0)) (setV 3)
  (sSet 2 (sOp oMod (sB intB (sCons (sOp oAdd (sOp oMul (sVar 2) (sLit (.int 31))) (sOp oMod (sB intB (sCons (sVar 3) sNil)) (sLit (.int 1000003)))) sNil)) (sLit (.int 1000003))))) (sRet (sOp oMod (sB intB (sCons (sOp oMul (sOp oMul (sOp oAdd (sVar 2) (sLit (.int 7))) (sOp oAdd (sVar 1) (sLit (.int 3)))) (sLit (.int 69621))) sNil)) (sLit (.int 2147483647)))))))
theorem cell_loop {A : FS} {a b : Sl} (hA : ∀ (s c : Int), 0 ≤ s → s < 1000003 → A ⟨[a, b, .val .N (.int s), .val .N (.int c)], []⟩ = some (.nx ⟨[a, b, .val .N (.int ((s * 31 + c % 1000003) % 1000003)), .val .N (.int c)], []⟩)) :
    ∀ (ns : List Int) (s : Int) (c : Sl), 0 ≤ s → s < 1000003 → ∃ c', forL A (setV 3) (ns.map fun n => (.N, D.int n)) ⟨[a, b, .val .N (.int s), c], []⟩ = some (.nx ⟨[a, b, .val .N (.int (seedF s ns)), c'], []⟩)
  | [], s, c, h0, h1 => ⟨c, rfl⟩
  | n :: ns, s, c, h0, h1 => by
    obtain ⟨c', h⟩ := cell_loop hA ns ((s * 31 + n % 1000003) % 1000003) (.val .N (.int n)) (by omega) (by omega)
    refine ⟨c', ?_⟩
    show _ = some (Out.nx ⟨[a, b, .val .N (.int (seedF ((s * 31 + n % 1000003) % 1000003) ns)), c'], []⟩)
    rw [List.map_cons, ← h]
    show ((setV 3 (.N, .int n) ⟨[a, b, .val .N (.int s), c], []⟩).bind fun e => (A e).bind _) = _
    have : setV 3 (.N, D.int n) ⟨[a, b, .val .N (.int s), c], []⟩ = some ⟨[a, b, .val .N (.int s), .val .N (.int n)], []⟩ := by simp
    rw [this]
    show (A ⟨[a, b, .val .N (.int s), .val .N (.int n)], []⟩).bind _ = _
    rw [hA s n h0 h1]
    rfl
theorem sem_law_cell : ∀ rs r, rs.all (fun r => okT r.1) = true → g_law_cell rs = some r → (F_law_cell (env0 N_law_cell.length rs)).bind fin = some r := gN_sem (by
  intro rs d ha h
  unfold h_law_cell at h
  split at h
  · rename_i t ds u k
    obtain ⟨ns, h1, h2⟩ := Option.bind_eq_some_iff.mp h
    split at h2
    · rename_i hc
      cases h2
      obtain ⟨hl, hk0, hk1⟩ := hc
      have e := intsOf_some h1
      subst e
      obtain ⟨j, rfl⟩ : ∃ j : Nat, k = (j : Int) := ⟨k.toNat, by omega⟩
      by_cases hj : j < ns.length
      · have h3 : atI (ns.map D.int) (j : Int) = some (.int ns[j]) := atI_map hj
        simp [F_law_cell, cellM, hj, oIx_scr h3]
      · obtain ⟨s0, s1⟩ := seedM_bd ns
        obtain ⟨c', hh⟩ := cell_loop (a := .val t (.scr (ns.map D.int))) (b := .val u (.int (j : Int))) (A := (sSet 2 (sOp oMod (sB intB (sCons (sOp oAdd (sOp oMul (sVar 2) (sLit (.int 31))) (sOp oMod (sB intB (sCons (sVar 3) sNil)) (sLit (.int 1000003)))) sNil)) (sLit (.int 1000003)))))
          (fun s c h0 h1 => by
            have hb : bitsOk s 31 = true := bits_sm (by omega) (by omega) (by decide) (by decide)
            simp [oMul_int hb, oMod_int]) ns 17 .un (by decide) (by decide)
        have b1 : bitsOk (seedM ns + 7) ((j : Int) + 3) = true := bits_sm (by omega) (by omega) (by omega) (by omega)
        have b2 : bitsOk ((seedM ns + 7) * ((j : Int) + 3)) 69621 = true := by
          refine bits_smr (m := 128) ?_ (by decide) (by decide) (by decide)
          exact Nat.le_trans (PySem.intBits_mul_le (bits64 (by omega) (by omega)) (bits64 (by omega) (by omega))) (by decide)
        have hj' : ¬ ((j : Int) < (ns.length : Int)) := by omega
        simp only [List.all_cons, Bool.and_eq_true] at ha
        have hi : itemsOf (t, .scr (ns.map D.int)) = some (ns.map fun n => (Tg.N, D.int n)) := by
          cases t <;> first | exact Bool.noConfusion ha.1 | (simp [List.map_map, Function.comp_def])
        have hc : cellM ns j = (seedM ns + 7) * ((j : Int) + 3) * 69621 % 2147483647 := dif_neg hj
        have hh : forL _ _ _ _ = some (Out.nx ⟨[_, _, .val .N (.int (seedM ns)), c'], []⟩) := hh
        simp [F_law_cell, hj', hi, hh, oMul_int b1, oMul_int b2, oMod_int, hc]
    · cases h2
  · cases h)
theorem len_law_cell : ∀ rs r, g_law_cell rs = some r → rs.length = 2 := gN_len (by intro rs d h; unfold h_law_cell at h; split at h <;> first | rfl | cases h)
theorem okt_law_cell : ∀ rs r, g_law_cell rs = some r → okT r.1 = true := gN_ok
theorem cif_some {α : Type} {p : Prop} {a : Option α} {b : α} (h : cif p a none = some b) : p ∧ a = some b := by
  unfold cif at h
  split at h
  · exact ⟨by assumption, h⟩
  · cases h
/-! _law_digits -/
def bigD : Int → List Int → List Int
  | _, [] => []
  | r, s :: ss => r % s :: bigD (r / s) ss
def restD : Int → List Int → Int
  | r, [] => r
  | r, s :: ss => restD (r / s) ss
def seedD (seed k : Int) : Int := (seed * 48271 + 974711 * k + 12345) % 2147483647
def twiceD (seed : Int) : Int := seed * (seed / 65537 + 3) % 2147483629
def smallD : Int → Int → List Int → List Int
  | _, _, [] => []
  | seed, k, s :: ss => twiceD (seedD seed k) / 19 % s :: smallD (seedD seed k) (k + 1) ss
def digitsM (c : Int) (ss : List Int) : List Int := if c ≥ 1000000000000000000 then bigD (c - 1000000000000000000) ss else smallD (c % 2147483629) 0 ss
def SizesOk (ss : List Int) : Prop := (∀ s ∈ ss, 0 < s ∧ s < 4611686018427387904) ∧ ss.length ≤ 10000
theorem bigD_get : ∀ (ss : List Int) (r : Int) (k : Nat) (hk : k < ss.length), (∀ s ∈ ss, 0 < s) → ∃ d, (bigD r ss)[k]? = some d ∧ 0 ≤ d ∧ d < ss[k]
  | s :: ss, r, 0, _, h => ⟨r % s, rfl, Int.emod_nonneg _ (by have := h s List.mem_cons_self; omega), Int.emod_lt_of_pos _ (h s List.mem_cons_self)⟩
  | s :: ss, r, k + 1, hk, h => by
    obtain ⟨d, e, h1⟩ := bigD_get ss (r / s) k (by simpa using hk) fun x hx => h x (List.mem_cons_of_mem _ hx)
    exact ⟨d, by simpa [bigD] using e, by simpa using h1⟩
theorem smallD_get : ∀ (ss : List Int) (r j : Int) (k : Nat) (hk : k < ss.length), (∀ s ∈ ss, 0 < s) → ∃ d, (smallD r j ss)[k]? = some d ∧ 0 ≤ d ∧ d < ss[k]
  | s :: ss, r, j, 0, _, h => ⟨_, rfl, Int.emod_nonneg _ (by have := h s List.mem_cons_self; omega), Int.emod_lt_of_pos _ (h s List.mem_cons_self)⟩
  | s :: ss, r, j, k + 1, hk, h => by
    obtain ⟨d, e, h1⟩ := smallD_get ss (seedD r j) (j + 1) k (by simpa using hk) fun x hx => h x (List.mem_cons_of_mem _ hx)
    exact ⟨d, by simpa [smallD] using e, by simpa using h1⟩
theorem bigD_len : ∀ (ss : List Int) (r : Int), (bigD r ss).length = ss.length
  | [], _ => rfl
  | _ :: ss, r => congrArg Nat.succ (bigD_len ss _)
theorem smallD_len : ∀ (ss : List Int) (r j : Int), (smallD r j ss).length = ss.length
  | [], _, _ => rfl
  | _ :: ss, r, j => congrArg Nat.succ (smallD_len ss _ _)
theorem digitsM_len (c : Int) (ss : List Int) : (digitsM c ss).length = ss.length := by
  unfold digitsM
  split
  · exact bigD_len ss _
  · exact smallD_len ss _ _
/-- each digit lies below its size -/
theorem digitsM_get {c : Int} {ss : List Int} (h : SizesOk ss) (k : Nat) (hk : k < ss.length) : ∃ d, (digitsM c ss)[k]? = some d ∧ 0 ≤ d ∧ d < ss[k] := by
  unfold digitsM
  split
  · exact bigD_get ss _ k hk fun s hs => (h.1 s hs).1
  · exact smallD_get ss _ _ k hk fun s hs => (h.1 s hs).1
noncomputable def h_law_digits (rs : List TD) : Option D := match rs with
  | [(_, .int c), (_, .lst ds)] => (intsOf ds).bind fun ss => cif (SizesOk ss) (some (.lst ((digitsM c ss).map D.int))) none
  | _ => none
noncomputable abbrev g_law_digits := gN h_law_digits
theorem g_law_digits_at {t u : Tg} {c : Int} {ss : List Int} (h : SizesOk ss) : g_law_digits [(t, .int c), (u, .lst (ss.map D.int))] = some (.N, .lst ((digitsM c ss).map D.int)) := by
  refine gN_of ?_
  unfold h_law_digits
  simp only [intsOf_map, Option.bind_some]
  exact cif_pos h
theorem len_law_digits : ∀ rs r, g_law_digits rs = some r → rs.length = 2 := gN_len (by intro rs d h; unfold h_law_digits at h; split at h <;> first | rfl | cases h)
theorem okt_law_digits : ∀ rs r, g_law_digits rs = some r → okT r.1 = true := gN_ok
abbrev N_law_digits : List Str := ["cell", "sizes", "row", "rest", "size", "seed", "k", "twice"]
noncomputable def B_law_digits_1 : FS := (sSeq (sApp 2 (sOp oMod (sB intB (sCons (sVar 3) sNil)) (sVar 4))) (sSet 3 (sOp oFd (sB intB (sCons (sVar 3) sNil)) (sVar 4))))
noncomputable def B_law_digits_2 : FS := (sSeq (sSet 5 (sOp oMod (sB intB (sCons (sOp oAdd (sOp oAdd (sOp oMul (sVar 5) (sLit (.int 48271))) (sOp oMul (sLit (.int 974711)) (sVar 6))) (sLit (.int 12345))) sNil)) (sLit (.int 2147483647)))) (sSeq (sSet 7 (sOp oMod (sB intB (sCons (sOp oMul (sVar 5) (sOp oAdd (sOp oFd (sVar 5) (sLit (.int 65537))) (sLit (.int 3)))) sNil)) (sLit (.int 2147483629)))) (sApp 2 (sOp oMod (sOp oFd (sVar 7) (sLit (.int 19))) (sOp oIx (sVar 1) (sVar 6))))))
noncomputable def F_law_digits : FS := (sSeq (sOwn 2 (sLd sNil)) (sSeq (sSet 3 (sB intB (sCons (sVar 0) sNil))) (sSeq (sIf (sBl (sOp oGe (sVar 3) (sOp oPow (sLit (.int 10)) (sLit (.int 18)))))
  (sSeq (sSet 3 (sOp oSub (sVar 3) (sOp oPow (sLit (.int 10)) (sLit (.int 18))))) (sSeq (sFor (sIt (sVar 1)) (setV 4)
  B_law_digits_1) (sRet (sVar 2))))
  sNx) (sSeq (sSet 5 (sOp oMod (sB intB (sCons (sVar 3) sNil)) (sLit (.int 2147483629)))) (sSeq (sFor (sR1 (sB lenB (sCons (sVar 1) sNil))) (setV 6)
  B_law_digits_2) (sRet (sVar 2)))))))
theorem dg_loop1 (C S s5 s6 s7 : Sl) : ∀ (ss : List Int) (r : Int) (row : List Int) (s4 : Sl), (∀ s ∈ ss, 0 < s ∧ s < 4611686018427387904) → row.length + ss.length ≤ lim →
    ∃ s4', forL B_law_digits_1 (setV 4) (ss.map fun s => (Tg.N, D.int s)) ⟨[C, S, .own (row.map D.int), .val .N (.int r), s4, s5, s6, s7], []⟩ = some (.nx ⟨[C, S, .own ((row ++ bigD r ss).map D.int), .val .N (.int (restD r ss)), s4', s5, s6, s7], []⟩)
  | [], r, row, s4, _, _ => ⟨s4, by simp [bigD, restD]⟩
  | s :: ss, r, row, s4, h, hl => by
    rw [List.length_cons] at hl
    obtain ⟨h0, h1⟩ := h s List.mem_cons_self
    obtain ⟨s4', e⟩ := dg_loop1 C S s5 s6 s7 ss (r / s) (row ++ [r % s]) (.val .N (.int s)) (fun x hx => h x (List.mem_cons_of_mem _ hx)) (by simp; omega)
    refine ⟨s4', ?_⟩
    have ha : (row.map D.int).length ≤ lim := by simp; omega
    have e2 : B_law_digits_1 ⟨[C, S, .own (row.map D.int), .val .N (.int r), .val .N (.int s), s5, s6, s7], []⟩ = some (.nx ⟨[C, S, .own ((row ++ [r % s]).map D.int), .val .N (.int (r / s)), .val .N (.int s), s5, s6, s7], []⟩) := by
      simp [B_law_digits_1, oMod_int h0, oFd_int (i := r) (j := s) ⟨h0, by omega⟩, appR_N ha]
    rw [List.map_cons, forL_step (e1 := ⟨[C, S, .own (row.map D.int), .val .N (.int r), .val .N (.int s), s5, s6, s7], []⟩) (by simp) e2, e]
    simp [bigD, restD]
theorem seedD_bd (s k : Int) : 0 ≤ seedD s k ∧ seedD s k < 2147483647 := by unfold seedD; omega
theorem dg_loop2 (C s3 s4 : Sl) {t : Tg} {ss : List Int} (h : SizesOk ss) : ∀ (m a : Nat) (seed : Int) (row : List Int) (s6 s7 : Sl), a + m = ss.length → 0 ≤ seed → seed < 4294967296 → row.length + m ≤ lim →
    ∃ s5' s6' s7', forL B_law_digits_2 (setV 6) ((List.range' a m).map fun (k : Nat) => (Tg.N, D.int (0 + (k : Int)))) ⟨[C, .val t (.lst (ss.map D.int)), .own (row.map D.int), s3, s4, .val .N (.int seed), s6, s7], []⟩ =
      some (.nx ⟨[C, .val t (.lst (ss.map D.int)), .own ((row ++ smallD seed a (ss.drop a)).map D.int), s3, s4, s5', s6', s7'], []⟩)
  | 0, a, seed, row, s6, s7, ha, _, _, _ => ⟨.val .N (.int seed), s6, s7, by
      rw [List.drop_eq_nil_of_le (by omega)]
      simp [smallD]⟩
  | m + 1, a, seed, row, s6, s7, ha, h0, h1, hl => by
    have hlt : a < ss.length := by omega
    obtain ⟨p0, p1⟩ := h.1 ss[a] (List.getElem_mem _)
    obtain ⟨q0, q1⟩ := seedD_bd seed a
    obtain ⟨s5', s6', s7', e⟩ := dg_loop2 C s3 s4 (t := t) h m (a + 1) (seedD seed a) (row ++ [twiceD (seedD seed a) / 19 % ss[a]]) (.val .N (.int (a : Int))) (.val .N (.int (twiceD (seedD seed a)))) (by omega) q0 (by omega) (by simp; omega)
    refine ⟨s5', s6', s7', ?_⟩
    have hal : (row.map D.int).length ≤ lim := by simp; omega
    have hlen : ss.length ≤ 10000 := h.2
    have b1 : bitsOk seed 48271 = true := bits_sm (by omega) (by omega) (by decide) (by decide)
    have b2 : bitsOk 974711 (a : Int) = true := bits_sm (by decide) (by decide) (by omega) (by omega)
    have b3 : bitsOk (seedD seed a) (seedD seed a / 65537 + 3) = true := bits_sm (by omega) (by omega) (by omega) (by omega)
    have hix : atI (ss.map D.int) (a : Int) = some (.int ss[a]) := atI_map hlt
    have d1 : (seed * 48271 + 974711 * (a : Int) + 12345) % 2147483647 = seedD seed a := rfl
    have d2 : seedD seed a * (seedD seed a / 65537 + 3) % 2147483629 = twiceD (seedD seed a) := rfl
    have e2 : B_law_digits_2 ⟨[C, .val t (.lst (ss.map D.int)), .own (row.map D.int), s3, s4, .val .N (.int seed), .val .N (.int (a : Int)), s7], []⟩ =
        some (.nx ⟨[C, .val t (.lst (ss.map D.int)), .own ((row ++ [twiceD (seedD seed a) / 19 % ss[a]]).map D.int), s3, s4, .val .N (.int (seedD seed a)), .val .N (.int (a : Int)), .val .N (.int (twiceD (seedD seed a)))], []⟩) := by
      unfold B_law_digits_2
      rw [sSeq_nx (e2 := ⟨[C, .val t (.lst (ss.map D.int)), .own (row.map D.int), s3, s4, .val .N (.int (seedD seed a)), .val .N (.int (a : Int)), s7], []⟩) (by simp [oMul_int b1, oMul_int b2, oMod_int, d1])]
      rw [sSeq_nx (e2 := ⟨[C, .val t (.lst (ss.map D.int)), .own (row.map D.int), s3, s4, .val .N (.int (seedD seed a)), .val .N (.int (a : Int)), .val .N (.int (twiceD (seedD seed a)))], []⟩) (by simp [oFd_int, oMul_int b3, oMod_int, d2])]
      simp [oFd_int, oIx_lst hix, oMod_int p0, appR_N hal]
    rw [List.range'_succ, List.map_cons, forL_step (e1 := ⟨[C, .val t (.lst (ss.map D.int)), .own (row.map D.int), s3, s4, .val .N (.int seed), .val .N (.int (a : Int)), s7], []⟩) (by simp) e2, e]
    rw [List.drop_eq_getElem_cons hlt]
    simp [smallD]
theorem sem_law_digits : ∀ rs r, rs.all (fun r => okT r.1) = true → g_law_digits rs = some r → (F_law_digits (env0 N_law_digits.length rs)).bind fin = some r := gN_sem (by
  intro rs d ha h
  unfold h_law_digits at h
  split at h
  · rename_i u c t ds
    obtain ⟨ss, h1, h2⟩ := Option.bind_eq_some_iff.mp h
    obtain ⟨hs, h3⟩ := cif_some h2
    cases h3
    have e := intsOf_some h1
    subst e
    simp only [List.all_cons, Bool.and_eq_true] at ha
    have hit : itemsOf (t, .lst (ss.map D.int)) = some (ss.map fun n => (Tg.N, D.int n)) := by
      cases t <;> first | exact Bool.noConfusion ha.2.1 | (simp [List.map_map, Function.comp_def])
    have hlen := hs.2
    have hp : oPow (Tg.N, D.int 10) (Tg.N, D.int 18) = some (.N, .int 1000000000000000000) := oPow_int ⟨by decide, by decide, by decide⟩
    unfold F_law_digits
    rw [sSeq_nx (e2 := ⟨[.val u (.int c), .val t (.lst (ss.map D.int)), .own ([].map D.int), .un, .un, .un, .un, .un], []⟩) (by simp [lim])]
    rw [sSeq_nx (e2 := ⟨[.val u (.int c), .val t (.lst (ss.map D.int)), .own ([].map D.int), .val .N (.int c), .un, .un, .un, .un], []⟩) (by simp)]
    by_cases hc : c ≥ 1000000000000000000
    · obtain ⟨s4', e⟩ := dg_loop1 (.val u (.int c)) (.val t (.lst (ss.map D.int))) .un .un .un ss (c - 1000000000000000000) [] .un hs.1 (by simp [lim]; omega)
      rw [sSeq_rt (r := (.O, .lst ((digitsM c ss).map D.int)))]
      · rfl
      · rw [sIf_t (by simp [hp]; exact hc)]
        rw [sSeq_nx (e2 := ⟨[.val u (.int c), .val t (.lst (ss.map D.int)), .own ([].map D.int), .val .N (.int (c - 1000000000000000000)), .un, .un, .un, .un], []⟩) (by simp [hp])]
        rw [sSeq_nx ((sFor_at (fi := sIt (sVar 1)) (items := ss.map fun n => (Tg.N, D.int n)) (by simp [hit])).trans e)]
        have : digitsM c ss = bigD (c - 1000000000000000000) ss := if_pos hc
        rw [this]
        simp
    · have hm0 : 0 ≤ c % 2147483629 := by omega
      have hm1 : c % 2147483629 < 4294967296 := by omega
      obtain ⟨s5', s6', s7', e⟩ := dg_loop2 (.val u (.int c)) (.val .N (.int c)) .un (t := t) hs ss.length 0 (c % 2147483629) [] .un .un (by omega) hm0 hm1 (by simp [lim]; omega)
      rw [sSeq_nx (A := sIf _ _ _) (e2 := ⟨[.val u (.int c), .val t (.lst (ss.map D.int)), .own ([].map D.int), .val .N (.int c), .un, .un, .un, .un], []⟩) (by rw [sIf_f (by simp [hp]; omega)]; rfl)]
      rw [sSeq_nx (e2 := ⟨[.val u (.int c), .val t (.lst (ss.map D.int)), .own ([].map D.int), .val .N (.int c), .un, .val .N (.int (c % 2147483629)), .un, .un], []⟩) (by simp [oMod_int])]
      have hr : r1K (Tg.N, D.int (ss.length : Int)) = some (iRng ss.length 0) := by
        rw [r1K_int (by omega)]
        rfl
      rw [sSeq_nx ((sFor_at (fi := sR1 _) (items := iRng ss.length 0) (by simp [hr])).trans (by unfold iRng; rw [List.range_eq_range']; exact e))]
      have : digitsM c ss = smallD (c % 2147483629) 0 ss := if_neg hc
      rw [this]
      simp
  · cases h)
end Lw
namespace Vf
open PySem L2
/-! equal data -/
theorem eqD_same {d : D} (h : pyOk d = true) (hc : (py d).canLay0 = true) (hd : (py d).depth ≤ 64) : eqD d d = some true := by
  have hs : SeqAt.shaped (py d) = true := Bool.and_eq_true_iff.mpr ⟨hc, decide_eq_true hd⟩
  have he : PyData.eqv (py d) (py d) = true := SeqAt.eqv_refl _ hc
  have g : (if pyOk d && pyOk d && SeqAt.shaped (py d) && SeqAt.shaped (py d) then some (PyData.eqv (py d) (py d)) else none) = some true := by
    rw [if_pos (by rw [h, hs]; rfl), he]
  cases d with
  | int i => simp
  | str x => simp
  | bl b => simp
  | non => rfl
  | lst xs => exact g
  | scr xs => exact g
  | tup xs => exact g
  | ins _ _ _ => exact g
  | dic _ _ => exact g
  | exn _ _ _ => exact g
/-! slices, whiles, comprehensions -/
@[simp] theorem lcL_nil {ct : FT} {fe : FE} {s : TD → Ev → Option Ev} {env : Ev} : lcL ct fe s env [] = some [] := rfl
end Vf
namespace Vf
open PySem L2
/-! all(list of bools), methods of texts -/
def boolsOf : List D → Option (List Bool)
  | [] => some []
  | .bl i :: r => (boolsOf r).map (i :: ·)
  | _ :: _ => none
theorem boolsOf_map : ∀ ns : List Bool, boolsOf (ns.map D.bl) = some ns
  | [] => rfl
  | n :: ns => by
    rw [List.map_cons]
    show (boolsOf (ns.map D.bl)).map (n :: ·) = _
    rw [boolsOf_map ns]
    rfl
def strsOf : List D → Option (List Str)
  | [] => some []
  | .str i :: r => (strsOf r).map (i :: ·)
  | _ :: _ => none
def allB (rs : List TD) : Option TD := match rs with
  | [a] => match a.2 with
    | .lst ds => (boolsOf ds).map fun bs => (.N, .bl (bs.all id))
    | _ => none
  | _ => none
@[simp] def sM1 (o : TD → TD → Option TD) (f g : FE) : FE := fun env => (f env).bind fun a => (g env).bind fun b => o a b
@[simp] def sM0 (o : TD → Option TD) (f : FE) : FE := fun env => (f env).bind fun a => o a
@[simp] theorem allB_at {t : Tg} {bs : List Bool} : allB [(t, .lst (bs.map D.bl))] = some (.N, .bl (bs.all id)) := by
  show (boolsOf (bs.map D.bl)).map _ = _
  rw [boolsOf_map]; rfl
end Vf
namespace Vf
open PySem L2
/-! defs that hand a new list back -/
@[simp] def sRetL (fl : FL) : FS := fun env => (fl env).bind fun r => if r.1 = .N then some (.rt (.O, .lst r.2)) else none
@[simp] def sCallL (g : List TD → Option (List D)) (fa : FA) : FL := fun env => (fa env).bind fun rs => (g (rs.map dn)).map fun ds => (.N, ds)
def spO (Z : Zc) (g : List TD → Option (List D)) : Sp := fun vs H Q _ => ∃ N rs ds, Same N H ∧ RVs Z ⟨N, H, H, []⟩ rs vs ∧ rs.all (fun r => okT r.1) = true ∧ g rs = some ds ∧
  ∀ p xs w', Gr ⟨N, H, H, []⟩ w' → H p = none → w'.H p = some (.lst xs) → w'.B p = none → RpL Z w'.N xs ds → Q (.ref p) w'.H
def finO (o : Out) : Option (List D) := match o with
  | .rt (.O, .lst ds) => some ds
  | _ => none
@[simp] theorem finO_rt {ds : List D} : finO (.rt (.O, .lst ds)) = some ds := rfl
structure CaO (P : Program) (w : World) (K : PySem.W.Frag) (mg : Str → Option Value) (base : Heap) (cl : Str → Option Addr) (k : Nat) (x : Str) (ps : List Str) (g : List TD → Option (List D)) : Prop where
  ex : ∃ f fd, FnOk P w K mg base CX0 k f fd ps (spO ⟨K, cl⟩ g) ∧ mg x = some (.ref f) ∧ PySem.W.keepIn K (.ref f) = true ∧ Binds K fd ps []
theorem CaO.mono {P : Program} {w : World} {K : PySem.W.Frag} {mg : Str → Option Value} {base : Heap} {cl : Str → Option Addr} {j k : Nat} {x : Str} {ps : List Str} {g : List TD → Option (List D)} (C : CaO P w K mg base cl j x ps g) (h : j ≤ k) : CaO P w K mg base cl k x ps g := by
  obtain ⟨f, fd, F, r⟩ := C.ex
  exact ⟨⟨f, fd, F.mono h, r⟩⟩
/-! a def's worth, as its own body says -/
def gF (np n : Nat) (F : FS) (rs : List TD) : Option TD := if rs.length = np ∧ rs.all (fun r => okT r.1) = true then (F (env0 n rs)).bind fin else none
theorem gF_at {np n : Nat} {F : FS} {rs : List TD} (h : rs.length = np) (h2 : rs.all (fun r => okT r.1) = true) : gF np n F rs = (F (env0 n rs)).bind fin := if_pos ⟨h, h2⟩
theorem fin_ok {o : Out} {r : TD} (h : fin o = some r) : okT r.1 = true := by
  unfold fin at h
  split at h <;> cases h <;> rfl
theorem gF_ok {np n : Nat} {F : FS} (rs : List TD) (r : TD) (h : gF np n F rs = some r) : okT r.1 = true := by
  unfold gF at h
  split at h
  · obtain ⟨o, _, h2⟩ := Option.bind_eq_some_iff.mp h
    exact fin_ok h2
  · cases h
theorem gF_len {np n : Nat} {F : FS} (rs : List TD) (r : TD) (h : gF np n F rs = some r) : rs.length = np := by
  unfold gF at h
  split at h
  · rename_i hh
    exact hh.1
  · cases h
theorem gF_sem {np n : Nat} {F : FS} (rs : List TD) (r : TD) (_ : rs.all (fun r => okT r.1) = true) (h : gF np n F rs = some r) : (F (env0 n rs)).bind fin = some r := by
  unfold gF at h
  split at h
  · exact h
  · cases h
end Vf
namespace Vf
open PySem L2
/-! texts -/
@[simp] theorem sign_len (c : Nat) : Str.length ⟨#[c]⟩ = 1 := rfl
@[simp] theorem iRng_len (n : Nat) (lo : Int) : (iRng n lo).length = n := by unfold iRng; simp
end Vf
namespace Vf
open PySem L2
/-! str(number), ord(sign), methods of texts, attributes of an instance that stands -/
@[simp] def sM1L (o : TD → TD → Option (Tg × List D)) (f g : FE) : FL := fun env => (f env).bind fun a => (g env).bind fun b => o a b
section
variable {X : Cx} {cl : Str → Option Addr} {a b c o e : Expr} {es : List Expr} {f g h : FE} {fa : FA} {ct dt : FT} {apos pos : Pos}
theorem RV.ins {Z : Zc} {w : Wd} (hw : Wf w) : ∀ {t : Tg} {c : Str} {fs : List Str} {ds : List D} {v : V}, RV Z w (t, .ins c fs ds) v → ∃ p C dx vs, v = .ref p ∧ w.H p = some (.ins C dx (fs.zip vs)) ∧ Z.cl c = some C ∧ vs.length = fs.length ∧ RpL Z (w.rd (el t)) vs ds
  | .N, _, _, _, _, h => by cases h with | ins h c l r => exact ⟨_, _, _, _, rfl, hw.nh _ _ h, c, l, r⟩
  | .B, _, _, _, _, h => by cases h with | ins h c l r => exact ⟨_, _, _, _, rfl, hw.bh _ _ h, c, l, r⟩
  | .T, _, _, _, _, h => by cases h with | ins h c l r => exact ⟨_, _, _, _, rfl, h, c, l, r⟩
  | .O, _, _, _, _, ⟨p, vs, ds, e, e2, h, b, r⟩ => nomatch e2
end
end Vf
namespace Vf
open PySem L2
/-! objects that may change: the table, handles -/
abbrev FH := Ev → Option HV
def tH (Z : Zc) (f : FH) : TE := fun σ H Q => ∃ env w x, w.H = H ∧ Wok Z env σ w ∧ f env = some x ∧ ∀ v w', Gr w w' → HvOk Z w' v x → Q v w'.H
theorem HvsOk.length {Z : Zc} {w : Wd} : ∀ {vs : List V} {xs : List HV}, HvsOk Z w vs xs → vs.length = xs.length
  | [], [], _ => rfl
  | _ :: _, _ :: _, ⟨_, r⟩ => congrArg Nat.succ r.length
  | [], _ :: _, h => h.elim
  | _ :: _, [], h => h.elim
theorem HvsOk.get {Z : Zc} {w : Wd} : ∀ {vs : List V} {xs : List HV} {i : Nat} {x : HV}, HvsOk Z w vs xs → xs[i]? = some x → ∃ v, vs[i]? = some v ∧ HvOk Z w v x
  | [], [], _, _, _, e => by simp at e
  | _ :: _, _ :: _, 0, _, ⟨h, _⟩, e => by simp at e; subst e; exact ⟨_, rfl, h⟩
  | _ :: _, _ :: _, i + 1, _, ⟨_, r⟩, e => by simpa using r.get (i := i) (by simpa using e)
  | [], _ :: _, _, _, h, _ => h.elim
  | _ :: _, [], _, _, h, _ => h.elim
theorem HvsOk.app {Z : Zc} {w : Wd} : ∀ {vs us : List V} {xs ys : List HV}, HvsOk Z w vs xs → HvsOk Z w us ys → HvsOk Z w (vs ++ us) (xs ++ ys)
  | [], _, [], _, _, h => h
  | _ :: _, _, _ :: _, _, ⟨h, r⟩, q => ⟨h, r.app q⟩
  | [], _, _ :: _, _, h, _ => h.elim
  | _ :: _, _, [], _, h, _ => h.elim
theorem HvsOk.set {Z : Zc} {w : Wd} : ∀ {vs : List V} {xs : List HV} {v : V} {x : HV} (i : Nat), HvsOk Z w vs xs → HvOk Z w v x → HvsOk Z w (vs.set i v) (xs.set i x)
  | [], [], _, _, _, h, _ => h
  | _ :: _, _ :: _, _, _, 0, ⟨_, r⟩, q => ⟨q, r⟩
  | _ :: _, _ :: _, _, _, i + 1, ⟨h, r⟩, q => ⟨h, r.set i q⟩
  | [], _ :: _, _, _, _, h, _ => h.elim
  | _ :: _, [], _, _, _, h, _ => h.elim
theorem hvs_pu {Z : Zc} {w : Wd} : ∀ {vs : List V} {ds : List D}, RpL Z w.N vs ds → HvsOk Z w vs (ds.map .pu)
  | _, _, .nil => trivial
  | _, _, .cons h r => ⟨h, hvs_pu r⟩
/-- an object of the table changes -/
theorem Wok.tset {Z : Zc} {env : Ev} {σ : L2.St} {w : Wd} (k : Wok Z env σ w) {n : Nat} {M0 M : Mob} {a : Addr} {o : HO} (he : env.t[n]? = some (some M0)) (hm : w.m[n]? = some a) (hb : w.B a = none) (hM : MobOk Z ⟨w.N, w.B, upd w.H a o, w.m⟩ a M) :
    Wok Z ⟨env.s, env.t.set n (some M)⟩ σ ⟨w.N, w.B, upd w.H a o, w.m⟩ ∧ Gs w ⟨w.N, w.B, upd w.H a o, w.m⟩ := by
  have wf : Wf ⟨w.N, w.B, upd w.H a o, w.m⟩ := ⟨k.wf.nb, same_up1 k.wf.bh hb⟩
  have hn : n < env.t.length := (List.getElem?_eq_some_iff.mp he).1
  have ha := List.mem_of_getElem? hm
  refine ⟨⟨wf, k.len, fun i s e => ?_, k.dj, ?_⟩, ⟨wf, .refl _, .refl _, fun x q => .inl q, List.prefix_refl _, fun _ q => .inl q⟩⟩
  · obtain ⟨o', h1, h2⟩ := k.sl i s e
    refine ⟨o', h1, ?_⟩
    cases s with
    | un => exact trivial
    | val t d => exact h2
    | han j => exact h2
    | exo _ _ _ _ _ _ => exact h2
    | clo f F u x => exact ⟨h2.1, h2.2.1, h2.2.2.1, HvsOk.mono (w := w) (w' := ⟨w.N, w.B, upd w.H a o, w.m⟩) (.refl _) (List.prefix_refl _) h2.2.2.2⟩
    | own ds =>
      obtain ⟨p, vs, e', h3, h4, h5, h6⟩ := h2
      have : p ≠ a := fun q => h5 (by rw [q]; exact ha)
      exact ⟨p, vs, e', by show upd w.H a o p = _; rw [upd_ne this]; exact h3, h4, h5, h6⟩
  · refine ⟨by rw [List.length_set]; exact k.tb.len, k.tb.nd, fun b hb' => ?_, fun j M' e => ?_⟩
    · show upd w.H a o b ≠ none
      by_cases q : b = a
      · subst q
        rw [upd_same]
        exact fun z => nomatch z
      · rw [upd_ne q]
        exact k.tb.hh b hb'
    · by_cases hj : n = j
      · subst hj
        rw [List.getElem?_set_self hn] at e
        cases e
        exact ⟨a, hm, hb, hM⟩
      · rw [List.getElem?_set_ne hj] at e
        obtain ⟨b, h1, h2, h3⟩ := k.tb.at_ j M' e
        have hne : b ≠ a := fun q => by
          subst q
          exact hj ((List.getElem?_inj (List.getElem?_eq_some_iff.mp hm).1 k.tb.nd).mp (hm.trans h1.symm))
        exact ⟨b, h1, h2, MobOk.mono (w := w) (w' := ⟨w.N, w.B, upd w.H a o, w.m⟩) (.refl _) (List.prefix_refl _) (fun o' q => by show upd w.H a o b = _; rw [upd_ne hne]; exact q) h3⟩
/-- an object of the table more -/
theorem Wok.tnew {Z : Zc} {env : Ev} {σ : L2.St} {w w' : Wd} (k : Wok Z env σ w) (g : Gr w w') {p : Addr} {o : HO} {M : Mob} (hp : w.H p = none) (h : w'.H p = some o) (hb : w'.B p = none) (hM : MobOk Z w' p M) :
    Wok Z ⟨env.s, env.t ++ [some M]⟩ σ ⟨w'.N, w'.B, w'.H, w'.m ++ [p]⟩ ∧ Gs w ⟨w'.N, w'.B, w'.H, w'.m ++ [p]⟩ := by
  have k' := k.mono g
  have hpm : p ∉ w.m := fun q => k.tb.hh p q hp
  have hpm' : p ∉ w'.m := by rw [g.m]; exact hpm
  have wf : Wf ⟨w'.N, w'.B, w'.H, w'.m ++ [p]⟩ := ⟨g.wf.nb, g.wf.bh⟩
  have px : w'.m <+: w'.m ++ [p] := List.prefix_append _ _
  refine ⟨⟨wf, k'.len, fun i s e => ?_, k'.dj, ?_⟩, ⟨wf, g.n, g.b, fun x q => (g.fn x q).imp id fun z => k.wf.bh.free z, by show w.m <+: w'.m ++ [p]; rw [g.m]; exact List.prefix_append _ _, fun x q => (List.mem_append.mp q).elim (fun z => .inl (by rw [← g.m]; exact z)) fun z => .inr (by rw [List.mem_singleton.mp z]; exact k.wf.bh.free hp)⟩⟩
  · obtain ⟨o', h1, h2⟩ := k'.sl i s e
    refine ⟨o', h1, ?_⟩
    cases s with
    | un => exact trivial
    | val t d => exact h2
    | han j =>
      obtain ⟨a, e1, e2⟩ := h2
      exact ⟨a, e1, by show (w'.m ++ [p])[j]? = _; rw [List.getElem?_append_left (List.getElem?_eq_some_iff.mp e2).1]; exact e2⟩
    | exo _ _ _ _ _ _ => exact h2
    | clo f F u x => exact ⟨h2.1, h2.2.1, h2.2.2.1, HvsOk.mono (w := w') (w' := ⟨w'.N, w'.B, w'.H, w'.m ++ [p]⟩) (.refl _) px h2.2.2.2⟩
    | own ds =>
      obtain ⟨q, vs, e', h3, h4, h5, h6⟩ := h2
      refine ⟨q, vs, e', h3, h4, ?_, h6⟩
      show q ∉ w'.m ++ [p]
      intro z
      rcases List.mem_append.mp z with z | z
      · exact h5 z
      · have := List.mem_singleton.mp z
        subst this
        obtain ⟨o2, i1, i2⟩ := k.sl i _ e
        obtain ⟨q2, vs2, e2, i3, _⟩ := i2
        rw [h1] at i1
        cases i1
        rw [e'] at e2
        cases e2
        rw [hp] at i3
        cases i3
  · refine ⟨by show (env.t ++ [some M]).length = (w'.m ++ [p]).length; rw [List.length_append, List.length_append, k'.tb.len]; rfl, ?_, fun b hb' => ?_, fun j M' e => ?_⟩
    · show (w'.m ++ [p]).Nodup
      rw [List.nodup_append]
      exact ⟨k'.tb.nd, by simp, fun x hx y hy e => by rw [List.mem_singleton.mp hy] at e; subst e; exact hpm' hx⟩
    · show w'.H b ≠ none
      rcases List.mem_append.mp hb' with z | z
      · exact k'.tb.hh b z
      · rw [List.mem_singleton.mp z, h]
        exact fun z => nomatch z
    · have e : (env.t ++ [some M])[j]? = some (some M') := e
      by_cases hj : j < env.t.length
      · rw [List.getElem?_append_left hj] at e
        obtain ⟨a, h1, h2, h3⟩ := k'.tb.at_ j M' e
        exact ⟨a, by show (w'.m ++ [p])[j]? = _; rw [List.getElem?_append_left (List.getElem?_eq_some_iff.mp h1).1]; exact h1, h2, MobOk.mono (w := w') (w' := ⟨w'.N, w'.B, w'.H, w'.m ++ [p]⟩) (.refl _) px (fun _ q => q) h3⟩
      · rw [List.getElem?_append_right (by omega)] at e
        have h0 : j - env.t.length = 0 := by
          have := (List.getElem?_eq_some_iff.mp e).1
          simp at this
          omega
        rw [h0] at e
        cases e
        have hlen := k'.tb.len
        exact ⟨p, by show (w'.m ++ [p])[j]? = _; rw [List.getElem?_append_right (by omega), ← hlen, h0]; rfl, hb, MobOk.mono (w := w') (w' := ⟨w'.N, w'.B, w'.H, w'.m ++ [p]⟩) (.refl _) px (fun _ q => q) hM⟩
theorem Wok.setS {Z : Zc} {env : Ev} {σ : L2.St} {w : Wd} (k : Wok Z env σ w) {i : Nat} (hi : i < env.s.length) {x : Sl} {v : V} (hx : ∀ ds, x ≠ .own ds) (h : SlOk Z w (some v) x) : Wok Z (env.put i x) (σ.set i (some v)) w := by
  refine ⟨k.wf, by simpa using k.len, fun j s e => ?_, fun j j' ds es p hne e1 e2 e3 => ?_, k.tb⟩
  · by_cases hj : i = j
    · subst hj
      rw [List.getElem?_set_self hi] at e
      cases e
      exact ⟨some v, List.getElem?_set_self (by rw [k.len]; exact hi), h⟩
    · rw [List.getElem?_set_ne hj] at e
      obtain ⟨o, h1, h2⟩ := k.sl j s e
      exact ⟨o, by rw [List.getElem?_set_ne hj]; exact h1, h2⟩
  · have n1 : i ≠ j := fun q => by
      subst q
      rw [List.getElem?_set_self hi] at e1
      exact hx _ (Option.some.inj e1)
    have n2 : i ≠ j' := fun q => by
      subst q
      rw [List.getElem?_set_self hi] at e2
      exact hx _ (Option.some.inj e2)
    rw [List.getElem?_set_ne n1] at e1 e3
    rw [List.getElem?_set_ne n2] at e2 ⊢
    exact k.dj j j' ds es p hne e1 e2 e3
/-! readings of paths -/
def hVar (i : Nat) : FH := fun env => match env.s[i]? with
  | some (.han n) => some (.ob n)
  | some (.val .N d) => some (.pu d)
  | _ => none
@[simp] def hPu (f : FE) : FH := fun env => (f env).bind fun r => if r.1 = .N then some (.pu r.2) else none
def puD : HV → Option TD
  | .pu d => some (.N, d)
  | .ob _ => none
@[simp] def sOfH (h : FH) : FE := fun env => (h env).bind puD
def obIns (cs : List Str) (n : Str) (T : Tb) : HV → Option HV
  | .ob k => match T[k]? with
    | some (some (.ins c fs xs)) => if c ∈ cs then (fs.zip xs).lookup n else none
    | _ => none
  | .pu _ => none
@[simp] def hFld (cs : List Str) (n : Str) (h : FH) : FH := fun env => (h env).bind (obIns cs n env.t)
def obLst (T : Tb) : HV → Option (Nat × List HV)
  | .ob k => match T[k]? with
    | some (some (.lst xs)) => some (k, xs)
    | _ => none
  | .pu _ => none
def ixH (xs : List HV) (r : TD) : Option HV := match r.2 with | .int i => atI xs i | _ => none
@[simp] def hIx (h : FH) (g : FE) : FH := fun env => (h env).bind fun a => (obLst env.t a).bind fun q => (g env).bind (ixH q.2)
@[simp] def sLenH (h : FH) : FE := fun env => (h env).bind fun a => (obLst env.t a).map fun q => (.N, .int q.2.length)
def appH (env : Ev) (k : Nat) (xs : List HV) (x : HV) : Option Out := if xs.length ≤ lim then some (.nx ⟨env.s, env.t.set k (some (.lst (xs ++ [x])))⟩) else none
@[simp] def sAppH (h g : FH) : FS := fun env => (h env).bind fun a => (obLst env.t a).bind fun q => (g env).bind fun x => appH env q.1 q.2 x
def setHS (i : Nat) (x : HV) (env : Ev) : Option Ev := if i < env.s.length then some (match x with | .ob n => env.put i (.han n) | .pu d => env.put i (.val .N d)) else none
@[simp] def sSetH (i : Nat) (h : FH) : FS := fun env => (h env).bind fun x => (setHS i x env).map .nx
def newH (i : Nat) (env : Ev) (r : Tg × List D) : Option Out := if i < env.s.length then (match r.1 with
  | .N => some (.nx ⟨env.s.set i (.han env.t.length), env.t ++ [some (.lst (r.2.map .pu))]⟩)
  | _ => none) else none
@[simp] def sNewH (i : Nat) (f : FL) : FS := fun env => (f env).bind (newH i env)
theorem obLst_some {T : Tb} {x : HV} {k : Nat} {xs : List HV} (h : obLst T x = some (k, xs)) : x = .ob k ∧ T[k]? = some (some (.lst xs)) := by
  unfold obLst at h
  split at h
  · split at h
    · rename_i n _ ys e
      cases h
      exact ⟨rfl, e⟩
    · cases h
  · cases h
theorem ob_lst {Z : Zc} {T : Tb} {w : Wd} (t : TbOk Z T w) {k : Nat} {xs : List HV} {v : V} (hv : HvOk Z w v (.ob k)) (e : T[k]? = some (some (.lst xs))) : ∃ a vs, v = .ref a ∧ w.m[k]? = some a ∧ w.B a = none ∧ w.H a = some (.lst vs) ∧ HvsOk Z w vs xs := by
  obtain ⟨a, rfl, h1⟩ := hv
  obtain ⟨a', h2, h3, vs, h4, h5⟩ := t.at_ k _ e
  rw [h1] at h2
  cases h2
  exact ⟨a, vs, rfl, h1, h3, h4, h5⟩
section
variable {X : Cx} {cl : Str → Option Addr} {a b c e : Expr} {es : List Expr} {f g : FE} {h hh : FH} {fa : FA} {fl : FL} {ct : FT} {A B : FS} {pos : Pos} {st : Stmt} {rest body orelse : List Stmt}
theorem jh_var (i : Nat) {x : Str} {pos : Pos} (hN : X.N[i]? = some x := by rfl) (hv : Vis X.env.scope x := by first | exact Or.inl rfl | exact Or.inr (Or.inl rfl) | exact Or.inr (Or.inr rfl))
    (hd : (x == ("__debug__" : Str)) = false := by decide) (hcd : (x == ("__classdict__" : Str)) = false := by decide) : PE X (.Name x pos) (tH (zx X cl) (hVar i)) := by
  refine pe_w (pe_var (i := i) hN hv hd hcd) fun σ H Q ⟨env, w, r, e, k, hr, q⟩ => ?_
  subst e
  unfold hVar at hr
  split at hr
  · rename_i n he
    cases hr
    obtain ⟨o, ho, a, rfl, h1⟩ := k.sl i _ he
    exact ⟨_, ho, q _ w (Gr.refl k.wf) ⟨a, rfl, h1⟩⟩
  · rename_i d he
    cases hr
    obtain ⟨o, ho, v, rfl, hv⟩ := k.sl i _ he
    refine ⟨_, ho, q _ w (Gr.refl k.wf) ?_⟩
    rcases hv with ⟨_, hv⟩ | ⟨z, _⟩
    · exact hv
    · cases z
  · cases hr
theorem atI_hv {Z : Zc} {w : Wd} {vs : List V} {xs : List HV} {i : Int} {x : HV} (r : HvsOk Z w vs xs) (h : atI xs i = some x) : ∃ v, atI vs i = some v ∧ HvOk Z w v x := by
  unfold atI at h ⊢
  rw [r.length]
  obtain ⟨j, h1, h2⟩ := Option.bind_eq_some_iff.mp h
  obtain ⟨v, h3, h4⟩ := r.get h2
  exact ⟨v, by rw [h1]; exact h3, h4⟩
end
end Vf
namespace Vf
open PySem L2
/-! defs that see the table -/
abbrev FAH := Ev → Option (List HV)
@[simp] def hNil : FAH := fun _ => some []
@[simp] def hCons (f : FH) (g : FAH) : FAH := fun env => (f env).bind fun x => (g env).map fun xs => x :: xs
def slH : HV → Sl | .pu d => .val .N d | .ob n => .han n
def env0H (n : Nat) (xs : List HV) (T : Tb) : Ev := ⟨xs.map slH ++ List.replicate (n - xs.length) .un, T⟩
@[simp] def sRetH (h : FH) : FS := fun env => (h env).map fun x => .rth x env.t
theorem wok_startH {Z : Zc} {w : Wd} {T : Tb} (hw : Wf w) (ht : TbOk Z T w) {names : List Str} {xs : List HV} {vs : List V} (h : HvsOk Z w vs xs) (hl : xs.length ≤ names.length) : Wok Z (env0H names.length xs T) (L2.start names vs) w := by
  have hvl := h.length
  refine ⟨hw, ?_, fun i s e => ?_, fun i j ds es p hne e1 e2 e3 => ?_, ht⟩
  · unfold L2.start env0H
    simp only [List.length_append, List.length_map, List.length_replicate]
    omega
  · unfold env0H at e
    dsimp only at e
    by_cases hi : i < xs.length
    · rw [List.getElem?_append_left (by rw [List.length_map]; exact hi), List.getElem?_map] at e
      obtain ⟨x, h1, rfl⟩ := Option.map_eq_some_iff.mp e
      obtain ⟨v, h2, h3⟩ := h.get h1
      refine ⟨some v, ?_, ?_⟩
      · unfold L2.start
        rw [List.getElem?_append_left (by rw [List.length_map]; omega), List.getElem?_map, h2]
        rfl
      · cases x with
        | pu d => exact ⟨v, rfl, .inl ⟨rfl, h3⟩⟩
        | ob n =>
          obtain ⟨a, rfl, h4⟩ := h3
          exact ⟨a, rfl, h4⟩
    · rw [List.getElem?_append_right (by rw [List.length_map]; omega)] at e
      have e2 := List.mem_of_getElem? e
      have e3 := List.eq_of_mem_replicate e2
      subst e3
      have hlt : i - (xs.map slH).length < names.length - xs.length := by
        have := (List.getElem?_eq_some_iff.mp e).1
        simpa using this
      rw [List.length_map] at hlt
      refine ⟨none, ?_, trivial⟩
      unfold L2.start
      rw [List.getElem?_append_right (by rw [List.length_map]; omega), List.length_map, List.getElem?_replicate]
      rw [if_pos (by omega)]
  · unfold env0H at e1
    dsimp only at e1
    rcases List.mem_append.mp (List.mem_of_getElem? e1) with z | z
    · obtain ⟨x, _, q⟩ := List.mem_map.mp z
      cases x <;> cases q
    · cases List.eq_of_mem_replicate z
section
variable {X : Cx} {cl : Str → Option Addr} {a b c e : Expr} {es : List Expr} {f g : FE} {h hh : FH} {fa : FAH} {fl : FL} {ct : FT} {A B : FS} {pos : Pos} {gg : List HV → Tb → Option (HV × Tb)} {ps : List Str} {k j : Nat}
@[simp] def sCallSet (i : Nat) (gg : List HV → Tb → Option (HV × Tb)) (fa : FAH) : FS := fun env => (fa env).bind fun xs => (gg xs env.t).bind fun r => (setHS i r.1 ⟨env.s, r.2⟩).map .nx
@[simp] def sCallDo (gg : List HV → Tb → Option (HV × Tb)) (fa : FAH) : FS := fun env => (fa env).bind fun xs => (gg xs env.t).map fun r => .nx ⟨env.s, r.2⟩
@[simp] def sCallRet (gg : List HV → Tb → Option (HV × Tb)) (fa : FAH) : FS := fun env => (fa env).bind fun xs => (gg xs env.t).map fun r => .rth r.1 r.2
theorem setHS_ok {Z : Zc} {i : Nat} {env e' : Ev} {σ : L2.St} {w : Wd} {x : HV} {v : V} (k : Wok Z env σ w) (h : setHS i x env = some e') (hv : HvOk Z w v x) : Wok Z e' (σ.set i (some v)) w := by
  unfold setHS at h
  split at h
  · rename_i hi
    cases h
    cases x with
    | ob n => exact k.setS hi (fun _ z => nomatch z) (by obtain ⟨a, rfl, h3⟩ := hv; exact ⟨a, rfl, h3⟩)
    | pu d => exact k.setS hi (fun _ z => nomatch z) ⟨v, rfl, .inl ⟨rfl, hv⟩⟩
  · cases h
end
end Vf
namespace Vf
open PySem L2
/-! e.f = g; a new instance -/
def putG {α : Type} (n : Str) (x : α) : List Str → List α → List Str × List α
  | [], _ => ([n], [x])
  | f :: fs, [] => (f :: fs, [])
  | f :: fs, y :: ys => if f = n then (f :: fs, x :: ys) else (f :: (putG n x fs ys).1, y :: (putG n x fs ys).2)
def stoK (cs : List Str) (n : Str) (env : Ev) (x : HV) : HV → Option Out
  | .ob k => match env.t[k]? with
    | some (some (.ins c fs xs)) => if c ∈ cs ∧ fs.length < 1000 then some (.nx ⟨env.s, env.t.set k (some (.ins c (putG n x fs xs).1 (putG n x fs xs).2))⟩) else none
    | _ => none
  | .pu _ => none
/-- o.n = e -/
@[simp] def sSto (cs : List Str) (n : Str) (h g : FH) : FS := fun env => (g env).bind fun x => (h env).bind (stoK cs n env x)
/-- C(..): the number of the new object, the table behind __init__ -/
def mkK (c : Str) (gi : List HV → Tb → Option (HV × Tb)) (xs : List HV) (T : Tb) : Option Tb := (gi (.ob T.length :: xs) (T ++ [some (.ins c [] [])])).bind fun r => match r.1 with
  | .pu .non => some r.2
  | _ => none
@[simp] def sMkSet (i : Nat) (c : Str) (gi : List HV → Tb → Option (HV × Tb)) (fa : FAH) : FS := fun env => (fa env).bind fun xs => (mkK c gi xs env.t).bind fun T' => (setHS i (.ob env.t.length) ⟨env.s, T'⟩).map .nx
end Vf
namespace Vf
open PySem L2
/-! methods of the program's classes -/
/-- the class and the variables of an object -/
def insOf (T : Tb) : HV → Option (Str × List Str)
  | .ob k => match T[k]? with
    | some (some (.ins c fs _)) => some (c, fs)
    | _ => none
  | .pu (.ins c fs _) => some (c, fs)
  | .pu _ => none
/-- what o.m(..) is worth -/
def methK (c m : Str) (gg : List HV → Tb → Option (HV × Tb)) (T : Tb) (x : HV) (xs : List HV) : Option (HV × Tb) := (insOf T x).bind fun q => if q.1 = c ∧ m ∉ q.2 then gg (x :: xs) T else none
@[simp] def sMeth (c m : Str) (gg : List HV → Tb → Option (HV × Tb)) (h : FH) (fa : FAH) (out : Ev → HV × Tb → Option Out) : FS := fun env => (h env).bind fun x => (fa env).bind fun xs => (methK c m gg env.t x xs).bind (out env)
end Vf
namespace Vf
open PySem L2
/-! o[i] = e, o a list of the table; its length, its truth -/
def putK (env : Ev) (k : Nat) (xs : List HV) (x : HV) (r : TD) : Option Out := match r.2 with
  | .int i => (ixN xs.length i).map fun j => .nx ⟨env.s, env.t.set k (some (.lst (xs.set j x)))⟩
  | _ => none
/-- o[g] = e -/
@[simp] def sPutH (h : FH) (g : FE) (v : FH) : FS := fun env => (v env).bind fun x => (h env).bind fun a => (obLst env.t a).bind fun q => (g env).bind (putK env q.1 q.2 x)
end Vf
namespace Vf
open PySem L2
/-! an object of the table becomes a tree: nobody changes it any more -/
def pures : List HV → Option (List D)
  | [] => some []
  | .pu d :: r => (pures r).map (d :: ·)
  | .ob _ :: _ => none
def mobD : Mob → Option D
  | .lst xs => (pures xs).map .lst
  | .ins c fs xs => (pures xs).map (.ins c fs)
  | _ => none
theorem pures_rp {Z : Zc} {w : Wd} : ∀ {vs : List V} {xs : List HV} {ds : List D}, HvsOk Z w vs xs → pures xs = some ds → RpL Z w.N vs ds
  | [], [], _, _, e => by cases e; exact .nil
  | v :: vs, .pu d :: xs, _, ⟨h, r⟩, e => by
    obtain ⟨ds, e1, rfl⟩ := Option.map_eq_some_iff.mp e
    exact .cons h (pures_rp r e1)
  | _ :: _, .ob _ :: _, _, _, e => by cases e
  | [], _ :: _, _, h, _ => h.elim
  | _ :: _, [], _, h, _ => h.elim
def frzHK (i : Nat) (env : Ev) : Sl → Option Out
  | .han n => match env.t[n]? with
    | some (some M) => (mobD M).map fun d => .nx ⟨env.s.set i (.val .N d), env.t.set n none⟩
    | _ => none
  | _ => some (.nx env)
@[simp] def sFrzH (i : Nat) : FS := fun env => (env.s[i]?).bind (frzHK i env)
end Vf
namespace Vf
open PySem L2
/-! len and truth of a list of the table -/
def lenHK (T : Tb) (xs : List HV) : Option TD := match xs with
  | [a] => (obLst T a).map fun q => (.N, .int q.2.length)
  | _ => none
@[simp] def sLenOf (h : FH) : FE := fun env => (h env).bind fun a => lenHK env.t [a]
@[simp] def sTruH (h : FH) : FT := fun env => (h env).bind fun a => (obLst env.t a).map fun q => !q.2.isEmpty
end Vf
namespace Vf
open PySem L2
/-! x[i] = e, x an own list -/
end Vf
namespace Vf
open PySem L2
/-! what holds of a worth that is there -/
def Ok {α : Type} (o : Option α) (Q : α → Prop) : Prop := ∃ x, o = some x ∧ Q x
section
variable {α β : Type} {Q R : α → Prop} {P : β → Prop} {o : Option α} {a : α}
@[simp] theorem Ok_some : Ok (some a) Q ↔ Q a := ⟨fun ⟨x, e, h⟩ => by cases e; exact h, fun h => ⟨a, rfl, h⟩⟩
@[simp] theorem Ok_none : Ok none Q ↔ False := ⟨fun ⟨x, e, h⟩ => (nomatch e), fun h => h.elim⟩
@[simp] theorem Ok_bind {f : α → Option β} : Ok (o.bind f) P ↔ Ok o fun x => Ok (f x) P := by
  cases o <;> simp
@[simp] theorem Ok_map {f : α → β} : Ok (o.map f) P ↔ Ok o fun x => P (f x) := by
  cases o <;> simp
@[simp] theorem Ok_ite {c : Prop} [Decidable c] {p q : Option α} : Ok (if c then p else q) Q ↔ (c → Ok p Q) ∧ (¬ c → Ok q Q) := by
  split <;> simp_all
@[simp] theorem Ok_cif {c : Prop} {p : Option α} : Ok (cif c p none) Q ↔ c ∧ Ok p Q := by
  by_cases h : c
  · rw [cif_pos h]; simp [h]
  · rw [cif_neg h]; simp [h]
theorem Ok.mono (h : Ok o Q) (hq : ∀ x, Q x → R x) : Ok o R := by
  obtain ⟨x, e, q⟩ := h
  exact ⟨x, e, hq x q⟩
theorem Ok.of (e : o = some a) (h : Q a) : Ok o Q := ⟨a, e, h⟩
theorem Ok.eq (h : Ok o fun x => x = a) : o = some a := by
  obtain ⟨x, e, rfl⟩ := h
  exact e
theorem Ok.of_eq (h : o = some a) : Ok o fun x => x = a := ⟨a, h, rfl⟩
end
section
variable {t u : Tg} {i j : Int} {x y z : Str} {b k : Bool} {xs ys ds es : List D} {d : D} {env : Ev} {n : Nat} {f g : FE} {A B : FS} {r : TD} {rs : List TD} {Q : TD → Prop} {Ql : Tg × List D → Prop} {Qo : Out → Prop} {Qi : List TD → Prop}
@[simp] theorem Ok_oMul_int : Ok (oMul (t, .int i) (u, .int j)) Q ↔ bitsOk i j = true ∧ Q (.N, .int (i * j)) := by
  show Ok (cif _ _ none) Q ↔ _
  simp
@[simp] theorem Ok_oMul_lst : Ok (oMul (t, .lst xs) (u, .int i)) Q ↔ (i.natAbs ≤ lim ∧ xs.length * i.toNat ≤ lim) ∧ Q (el t, .lst (List.replicate i.toNat xs).flatten) := by
  show Ok (cif _ _ none) Q ↔ _
  simp
@[simp] theorem Ok_oFd : Ok (oFd (t, .int i) (u, .int j)) Q ↔ (0 < j ∧ j < 18446744073709551616) ∧ Q (.N, .int (i / j)) := by
  show Ok (cif _ _ none) Q ↔ _
  simp
@[simp] theorem Ok_oMod : Ok (oMod (t, .int i) (u, .int j)) Q ↔ 0 < j ∧ Q (.N, .int (i % j)) := by
  show Ok (cif _ _ none) Q ↔ _
  simp
@[simp] theorem Ok_oPow : Ok (oPow (t, .int i) (u, .int j)) Q ↔ (0 ≤ j ∧ j ≤ 1000000 ∧ i.natAbs < 18446744073709551616) ∧ Q (.N, .int (i ^ j.toNat)) := by
  show Ok (cif _ _ none) Q ↔ _
  simp
theorem Ok_of_if {α : Type} {c : Prop} [Decidable c] {p : Option α} {P : α → Prop} : Ok (if c then p else none) P ↔ c ∧ Ok p P := by
  split <;> simp_all
@[simp] theorem Ok_oAdd_str : Ok (oAdd (t, .str x) (u, .str y)) Q ↔ x.length + y.length ≤ lim ∧ Q (.N, .str (x ++ y)) := by
  show Ok (if _ then _ else none) Q ↔ _
  rw [Ok_of_if, Ok_some]
@[simp] theorem Ok_oAdd_lst : Ok (oAdd (t, .lst xs) (u, .lst ys)) Q ↔ xs.length + ys.length ≤ lim ∧ Q (mt2 (el t) (el u), .lst (xs ++ ys)) := by
  show Ok (if _ then _ else none) Q ↔ _
  rw [Ok_of_if, Ok_some]
@[simp] theorem Ok_oAdd_tup : Ok (oAdd (t, .tup xs) (u, .tup ys)) Q ↔ xs.length + ys.length ≤ lim ∧ Q (mt2 (el t) (el u), .tup (xs ++ ys)) := by
  show Ok (if _ then _ else none) Q ↔ _
  rw [Ok_of_if, Ok_some]
@[simp] theorem Ok_catL : Ok (catL (t, .lst xs) (u, .lst ys)) Ql ↔ xs.length + ys.length ≤ lim ∧ Ql (mt2 (el t) (el u), xs ++ ys) := by
  show Ok (if _ then _ else none) Ql ↔ _
  rw [Ok_of_if, Ok_some]
@[simp] theorem Ok_oIx_lst : Ok (oIx (t, .lst xs) (u, .int i)) Q ↔ Ok (atI xs i) fun d => Q (nm (el t, d)) := by
  show Ok ((atI xs i).map _) Q ↔ _
  simp
@[simp] theorem Ok_oIx_scr : Ok (oIx (t, .scr xs) (u, .int i)) Q ↔ Ok (atI xs i) fun d => Q (nm (el t, d)) := by
  show Ok ((atI xs i).map _) Q ↔ _
  simp
@[simp] theorem Ok_oIx_tup : Ok (oIx (t, .tup xs) (u, .int i)) Q ↔ Ok (atI xs i) fun d => Q (nm (el t, d)) := by
  show Ok ((atI xs i).map _) Q ↔ _
  simp
@[simp] theorem Ok_r1K : Ok (r1K (t, .int j)) Qi ↔ (j < 4611686018427387904 ∧ -4611686018427387904 ≤ j) ∧ Qi (iRng j.toNat 0) := by
  show Ok (cif _ _ none) Qi ↔ _
  simp
@[simp] theorem Ok_r2K : Ok (r2K (t, .int i) (u, .int j)) Qi ↔ (i < 4611686018427387904 ∧ -4611686018427387904 ≤ i ∧ j < 4611686018427387904 ∧ -4611686018427387904 ≤ j) ∧ Qi (iRng (j - i).toNat i) := by
  show Ok (cif _ _ none) Qi ↔ _
  simp
@[simp] theorem Ok_lenS : Ok (lenB [(t, .str x)]) Q ↔ x.length ≤ lim ∧ Q (.N, .int x.length) := by
  show Ok (if _ then _ else none) Q ↔ _
  rw [Ok_of_if, Ok_some]
@[simp] theorem Ok_appR : Ok (appR n env ds (.N, d)) Qo ↔ ds.length ≤ lim ∧ Qo (.nx (env.put n (.own (ds ++ [d])))) := by
  show Ok (if _ then _ else none) Qo ↔ _
  rw [Ok_of_if, Ok_some]
@[simp] theorem Ok_extR : Ok (extR n env ds (.N, .lst es)) Qo ↔ ds.length + es.length ≤ lim ∧ Qo (.nx (env.put n (.own (ds ++ es)))) := by
  show Ok (if _ then _ else none) Qo ↔ _
  rw [Ok_of_if, Ok_some]
@[simp] theorem Ok_slD_str {lo hi : Option Int} : Ok (slD (t, .str x) lo hi) Q ↔ x.length ≤ lim ∧ Q (.N, .str (cutS x lo hi)) := by
  show Ok (if _ then _ else none) Q ↔ _
  rw [Ok_of_if, Ok_some]
/-- x[i] = e -/
def putR (n : Nat) (env : Ev) (ds : List D) (r k : TD) : Option Out := match r.1, k.2 with
  | .N, .int j => (ixN ds.length j).map fun m => .nx (env.put n (.own (ds.set m r.2)))
  | _, _ => none
def putK' (n : Nat) (g : FE) (env : Ev) (r : TD) : Sl → Option Out
  | .own ds => (g env).bind (putR n env ds r)
  | _ => none
@[simp] theorem sPut_eq : sPut n g f env = (f env).bind fun r => (env.s[n]?).bind (putK' n g env r) := by
  unfold sPut
  congr 1
  funext r
  cases h : env.s[n]? with
  | none => rfl
  | some s => cases s <;> rfl
@[simp] theorem putK'_own : putK' n g env r (.own ds) = (g env).bind (putR n env ds r) := rfl
@[simp] theorem putR_N : putR n env ds (.N, d) (t, .int j) = (ixN ds.length j).map fun m => .nx (env.put n (.own (ds.set m d))) := rfl
@[simp] theorem wipeE_nil : wipeE env [] = env := rfl
@[simp] theorem wipeE_cons {v : Nat} {vs : List Nat} : wipeE env (v :: vs) = (wipeE env vs).put v .un := rfl
/-! the places of a list -/
/-! loops -/
theorem forL_inv {A : FS} {s : TD → Ev → Option Ev} {Q : Out → Prop} : ∀ {items : List TD} (I : Nat → Ev → Prop) (k0 : Nat) {env : Ev}, I k0 env →
    (∀ (k : Nat) (r : TD) (env : Ev), items[k]? = some r → I (k0 + k) env → Ok (s r env) fun e1 => Ok (A e1) fun o => match o with
      | .nx e => I (k0 + k + 1) e
      | .ct e => I (k0 + k + 1) e
      | .bk e => Q (.nx e)
      | o => Q o) → (∀ env, I (k0 + items.length) env → Q (.nx env)) → Ok (forL A s items env) Q
  | [], I, k0, env, h0, _, he => by rw [forL_nil]; exact Ok_some.mpr (he env h0)
  | r :: rs, I, k0, env, h0, hs, he => by
    rw [forL_cons]
    obtain ⟨e1, q1, o, q2, q3⟩ := hs 0 r env rfl h0
    rw [q1]
    show Ok ((A e1).bind _) Q
    rw [q2]
    have next : ∀ e, I (k0 + 1) e → Ok (forL A s rs e) Q := fun e hi => forL_inv I (k0 + 1) hi (fun k r env hk hI => by
      have := hs (k + 1) r env (by simpa using hk) (by rw [Nat.add_assoc, Nat.add_comm 1 k] at hI; exact hI)
      rw [Nat.add_assoc k0 1 k, Nat.add_comm 1 k]
      exact this) (fun env hI => he env (by rw [List.length_cons, Nat.add_comm rs.length 1, ← Nat.add_assoc]; exact hI))
    cases o with
    | nx e => exact next e q3
    | ct e => exact next e q3
    | bk e => exact Ok_some.mpr q3
    | rt r => exact Ok_some.mpr q3
    | rth x T => exact Ok_some.mpr q3
/-- a loop, from its first turn -/
theorem forL_ok {A : FS} {s : TD → Ev → Option Ev} {Q : Out → Prop} {items : List TD} (I : Nat → Ev → Prop) {env : Ev} (h0 : I 0 env)
    (hs : ∀ (k : Nat) (r : TD) (env : Ev), items[k]? = some r → I k env → Ok (s r env) fun e1 => Ok (A e1) fun o => match o with
      | .nx e => I (k + 1) e
      | .ct e => I (k + 1) e
      | .bk e => Q (.nx e)
      | o => Q o) (he : ∀ env, I items.length env → Q (.nx env)) : Ok (forL A s items env) Q :=
  forL_inv I 0 h0 (fun k r env hk hI => by simpa using hs k r env hk (by simpa using hI)) (fun env hI => he env (by simpa using hI))
/-! comprehensions: each item by itself -/
inductive All2 {α β : Type} (P : α → β → Prop) : List α → List β → Prop
  | nil : All2 P [] []
  | cons {x : α} {y : β} {xs : List α} {ys : List β} : P x y → All2 P xs ys → All2 P (x :: xs) (y :: ys)
theorem All2.length {α β : Type} {P : α → β → Prop} : ∀ {xs : List α} {ys : List β}, All2 P xs ys → ys.length = xs.length
  | _, _, .nil => rfl
  | _, _, .cons _ r => congrArg Nat.succ r.length
theorem All2.get {α β : Type} {P : α → β → Prop} : ∀ {xs : List α} {ys : List β} {k : Nat} {y : β}, All2 P xs ys → ys[k]? = some y → ∃ x, xs[k]? = some x ∧ P x y
  | _, _, _, _, .nil, e => by simp at e
  | _, _, 0, _, .cons h _, e => by simp at e; subst e; exact ⟨_, rfl, h⟩
  | _, _, k + 1, _, .cons _ r, e => by simpa using r.get (k := k) (by simpa using e)
@[simp] theorem map_snd {α : Type} (xs : List α) (F : α → D) : (xs.map fun r => (Tg.N, F r)).map (fun x : TD => x.2) = xs.map F := by
  rw [List.map_map]; rfl
@[simp] theorem map_snd' {α : Type} (xs : List α) (F : α → D) : xs.map ((fun x : TD => x.2) ∘ fun r => (Tg.N, F r)) = xs.map F := rfl
@[simp] theorem map_nmN {α : Type} (xs : List α) (F : α → D) : (xs.map F).map (fun d => nm (Tg.N, d)) = xs.map fun r => (Tg.N, F r) := by
  rw [List.map_map]; simp [Function.comp_def]
@[simp] theorem tagL_Ns (ds : List D) : tagL (ds.map fun d => (Tg.N, d)) = .N := tagL_N fun r hr => by
  obtain ⟨d, _, rfl⟩ := List.mem_map.mp hr
  rfl
@[simp] theorem tagL_NF {α : Type} (xs : List α) (F : α → D) : tagL (xs.map fun r => (Tg.N, F r)) = .N := tagL_N fun r hr => by
  obtain ⟨d, _, rfl⟩ := List.mem_map.mp hr
  rfl
end
end Vf
namespace Vf
open PySem L2
/-! worths that change the table and may end in an exception -/
inductive XRes (α : Type) where | val (x : α) (T : Tb) | exc (c : Str) (ns : List Str) (xs : List HV) (T : Tb)
abbrev XF (α : Type) := Ev → Option (XRes α)
abbrev FX := XF HV
abbrev FXA := XF (List HV)
abbrev FXT := XF Bool
def kX {α β : Type} (k : α → Tb → Option (XRes β)) : XRes α → Option (XRes β)
  | .val x T => k x T
  | .exc c ns xs T => some (.exc c ns xs T)
def bX {α β : Type} (o : Option (XRes α)) (k : α → Tb → Option (XRes β)) : Option (XRes β) := o.bind (kX k)
/-- the exception's object, as it stands -/
def ExOk (Z : Zc) (w : Wd) (cls : Value) (d : Option Addr) (c : Str) (ns : List Str) (xs : List HV) : Prop :=
  ∃ C, Z.cl c = some C ∧ cls = .ref C ∧ ((ns = [] ∧ d = none) ∨ ∃ dx vs, d = some dx ∧ w.H dx = some (.xd (ns.zip vs)) ∧ vs.length = ns.length ∧ HvsOk Z w vs xs)
def XW (Z : Zc) (W : WX) (s : List Sl) (σ : L2.St) (w : Wd) (c : Str) (ns : List Str) (xs : List HV) (T : Tb) : Prop :=
  ∀ cls d w', Gs w w' → Wok Z ⟨s, T⟩ σ w' → ExOk Z w' cls d c ns xs → W cls d σ w'.H
def Fin {α : Type} (Z : Zc) (W : WX) (s : List Sl) (σ : L2.St) (w : Wd) (P : α → Tb → Prop) : XRes α → Prop
  | .val x T => P x T
  | .exc c ns xs T => XW Z W s σ w c ns xs T
def PvX (Z : Zc) (s : List Sl) (σ : L2.St) (w : Wd) (Q : VK) (x : HV) (T : Tb) : Prop := ∀ v w', Gs w w' → Wok Z ⟨s, T⟩ σ w' → HvOk Z w' v x → Q v w'.H
def tX (Z : Zc) (W : WX) (f : FX) : TE := fun σ H Q => ∃ env w r, w.H = H ∧ Wok Z env σ w ∧ f env = some r ∧ Fin Z W env.s σ w (PvX Z env.s σ w Q) r
def PaX (Z : Zc) (s : List Sl) (σ : L2.St) (w : Wd) (Q : List V → Hp → Prop) (xs : List HV) (T : Tb) : Prop := ∀ vs w', Gs w w' → Wok Z ⟨s, T⟩ σ w' → HvsOk Z w' vs xs → Q vs w'.H
def tXA (Z : Zc) (W : WX) (f : FXA) : TA := fun σ H Q => ∃ env w r, w.H = H ∧ Wok Z env σ w ∧ f env = some r ∧ Fin Z W env.s σ w (PaX Z env.s σ w Q) r
def PtX (Z : Zc) (s : List Sl) (σ : L2.St) (w : Wd) (Q : Bool → Hp → Prop) (b : Bool) (T : Tb) : Prop := ∀ w', Gs w w' → Wok Z ⟨s, T⟩ σ w' → Q b w'.H
def tXT (Z : Zc) (W : WX) (f : FXT) : TT := fun σ H Q => ∃ env w r, w.H = H ∧ Wok Z env σ w ∧ f env = some r ∧ Fin Z W env.s σ w (PtX Z env.s σ w Q) r
section
variable {α β : Type} {Z : Zc} {W : WX} {s : List Sl} {σ : L2.St} {w w' : Wd} {c : Str} {ns : List Str} {xs : List HV} {T : Tb} {P : α → Tb → Prop} {P' : β → Tb → Prop} {r : XRes α} {q : XRes β} {env : Ev} {Q : VK}
theorem XW.mono (g : Gs w w') (h : XW Z W s σ w c ns xs T) : XW Z W s σ w' c ns xs T := fun cls d w2 g2 k e => h cls d w2 (g.trans g2) k e
/-- what is asked of the end, asked later -/
def Late (Z : Zc) (W : WX) (s : List Sl) (σ : L2.St) (w : Wd) (q : XRes β) : Prop := ∀ c ns xs T, q = .exc c ns xs T → XW Z W s σ w c ns xs T
theorem Fin.late (h : Fin Z W s σ w P' q) : Late Z W s σ w q := fun c ns xs T e => by subst e; exact h
theorem Late.mono (g : Gs w w') (h : Late Z W s σ w q) : Late Z W s σ w' q := fun c ns xs T e => (h c ns xs T e).mono g
theorem Late.fin (h : Late Z W s σ w q) (hv : ∀ x T, q = .val x T → P' x T) : Fin Z W s σ w P' q := by
  cases q with
  | val x T => exact hv x T rfl
  | exc c ns xs T => exact h c ns xs T rfl
theorem kX_cases {o : Option (XRes α)} {k : α → Tb → Option (XRes β)} (h : bX o k = some q) : (∃ x T, o = some (.val x T) ∧ k x T = some q) ∨ ∃ c ns xs T, o = some (.exc c ns xs T) ∧ q = .exc c ns xs T := by
  obtain ⟨r, h1, h2⟩ := Option.bind_eq_some_iff.mp h
  cases r with
  | val x T => exact .inl ⟨x, T, h1, h2⟩
  | exc c ns xs T => cases h2; exact .inr ⟨c, ns, xs, T, h1, rfl⟩
theorem bX_fin {o : Option (XRes α)} {k : α → Tb → Option (XRes β)} (h : bX o k = some q) (l : Late Z W s σ w q) (hv : ∀ x T, k x T = some q → P x T) : ∃ r, o = some r ∧ Fin Z W s σ w P r := by
  rcases kX_cases h with ⟨x, T, h1, h2⟩ | ⟨c, ns, xs, T, h1, h2⟩
  · exact ⟨_, h1, hv x T h2⟩
  · exact ⟨_, h1, l c ns xs T h2⟩
theorem tX_bind {f : FX} {k : HV → Tb → Option (XRes β)} (kk : Wok Z env σ w) (h : bX (f env) k = some q) (l : Late Z W env.s σ w q)
    (hq : ∀ x T v w1, k x T = some q → Gs w w1 → Wok Z ⟨env.s, T⟩ σ w1 → HvOk Z w1 v x → Q v w1.H) : tX Z W f σ w.H Q := by
  obtain ⟨r, h1, h2⟩ := bX_fin (P := PvX Z env.s σ w Q) h l fun x T hk v w1 g k1 hx => hq x T v w1 hk g k1 hx
  exact ⟨env, w, r, rfl, kk, h1, h2⟩
theorem tXA_bind {f : FXA} {k : List HV → Tb → Option (XRes β)} {Q : List V → Hp → Prop} (kk : Wok Z env σ w) (h : bX (f env) k = some q) (l : Late Z W env.s σ w q)
    (hq : ∀ x T v w1, k x T = some q → Gs w w1 → Wok Z ⟨env.s, T⟩ σ w1 → HvsOk Z w1 v x → Q v w1.H) : tXA Z W f σ w.H Q := by
  obtain ⟨r, h1, h2⟩ := bX_fin (P := PaX Z env.s σ w Q) h l fun x T hk v w1 g k1 hx => hq x T v w1 hk g k1 hx
  exact ⟨env, w, r, rfl, kk, h1, h2⟩
theorem tXT_bind {f : FXT} {k : Bool → Tb → Option (XRes β)} {Q : Bool → Hp → Prop} (kk : Wok Z env σ w) (h : bX (f env) k = some q) (l : Late Z W env.s σ w q)
    (hq : ∀ x T w1, k x T = some q → Gs w w1 → Wok Z ⟨env.s, T⟩ σ w1 → Q x w1.H) : tXT Z W f σ w.H Q := by
  obtain ⟨r, h1, h2⟩ := bX_fin (P := PtX Z env.s σ w Q) h l fun x T hk w1 g k1 => hq x T w1 hk g k1
  exact ⟨env, w, r, rfl, kk, h1, h2⟩
end
/-! what stands in the table, as a tree -/
def mapO {α β : Type} (f : α → Option β) : List α → Option (List β)
  | [] => some []
  | x :: xs => (f x).bind fun y => (mapO f xs).map fun ys => y :: ys
def snapM (f : HV → Option D) : Mob → Option D
  | .lst xs => (mapO f xs).map .lst
  | .tup xs => (mapO f xs).map .tup
  | .ins c fs xs => (mapO f xs).map (.ins c fs)
  | .dic ks xs => (mapO f xs).map (.dic ks)
  | .cod _ => none
def snapN (T : Tb) : Nat → HV → Option D
  | _, .pu d => some d
  | 0, .ob _ => none
  | n + 1, .ob k => match T[k]? with
    | some (some M) => snapM (snapN T n) M
    | _ => none
def tdX (T : Tb) : HV → Option TD
  | .pu d => some (.N, d)
  | .ob k => (snapN T 9 (.ob k)).map fun d => (.T, d)
theorem mapO_rp {Z : Zc} {w : Wd} {f : HV → Option D} (hf : ∀ v x d, HvOk Z w v x → f x = some d → Rp Z w.H v d) : ∀ {vs : List V} {xs : List HV} {ds : List D}, HvsOk Z w vs xs → mapO f xs = some ds → RpL Z w.H vs ds
  | [], [], _, _, e => by cases e; exact .nil
  | v :: vs, x :: xs, ds, ⟨h, r⟩, e => by
    obtain ⟨y, h1, h2⟩ := Option.bind_eq_some_iff.mp e
    obtain ⟨ys, h3, rfl⟩ := Option.map_eq_some_iff.mp h2
    exact .cons (hf _ _ _ h h1) (mapO_rp hf r h3)
  | [], _ :: _, _, h, _ => h.elim
  | _ :: _, [], _, h, _ => h.elim
theorem snap_rp {Z : Zc} {T : Tb} {w : Wd} (hw : Wf w) (t : TbOk Z T w) : ∀ (n : Nat) (v : V) (x : HV) (d : D), HvOk Z w v x → snapN T n x = some d → Rp Z w.H v d
  | 0, v, .pu d', d, h, e => by cases e; exact Rp.mono hw.nh h
  | n + 1, v, .pu d', d, h, e => by cases e; exact Rp.mono hw.nh h
  | 0, _, .ob _, _, _, e => by cases e
  | n + 1, v, .ob k, d, h, e => by
    unfold snapN at e
    split at e
    · rename_i M ej
      obtain ⟨a, rfl, h1⟩ := h
      obtain ⟨a', h2, h3, h4⟩ := t.at_ k M ej
      rw [h1] at h2
      cases h2
      have ih := fun v x d => snap_rp hw t n v x d
      cases M with
      | lst xs =>
        obtain ⟨ds, e1, rfl⟩ := Option.map_eq_some_iff.mp e
        obtain ⟨vs, e2, e3⟩ := h4
        exact .lst e2 (mapO_rp ih e3 e1)
      | tup xs =>
        obtain ⟨ds, e1, rfl⟩ := Option.map_eq_some_iff.mp e
        obtain ⟨vs, e2, e3⟩ := h4
        exact .tup (.of e2) (mapO_rp ih e3 e1)
      | ins c fs xs =>
        obtain ⟨ds, e1, rfl⟩ := Option.map_eq_some_iff.mp e
        obtain ⟨C, dx, vs, e2, e3, e4, e5⟩ := h4
        exact .ins e2 e3 e4 (mapO_rp ih e5 e1)
      | dic ks xs =>
        obtain ⟨ds, e1, rfl⟩ := Option.map_eq_some_iff.mp e
        obtain ⟨vs, e2, e3, e4⟩ := h4
        exact .dic (.inl e2) e3 (mapO_rp ih e4 e1)
      | cod _ => cases e
    · cases e
theorem td_rv {Z : Zc} {T : Tb} {w : Wd} (hw : Wf w) (t : TbOk Z T w) {v : V} {x : HV} {r : TD} (h : HvOk Z w v x) (e : tdX T x = some r) : RV Z w r v := by
  cases x with
  | pu d => cases e; exact h
  | ob k =>
    obtain ⟨d, e1, rfl⟩ := Option.map_eq_some_iff.mp e
    exact snap_rp hw t 9 v (.ob k) d h e1
theorem tds_rv {Z : Zc} {T : Tb} {w : Wd} (hw : Wf w) (t : TbOk Z T w) : ∀ {vs : List V} {xs : List HV} {rs : List TD}, HvsOk Z w vs xs → mapO (tdX T) xs = some rs → RVs Z w rs vs
  | [], [], _, _, e => by cases e; exact trivial
  | v :: vs, x :: xs, rs, ⟨h, r⟩, e => by
    obtain ⟨y, h1, h2⟩ := Option.bind_eq_some_iff.mp e
    obtain ⟨ys, h3, rfl⟩ := Option.map_eq_some_iff.mp h2
    exact ⟨td_rv hw t h h1, tds_rv hw t r h3⟩
  | [], _ :: _, _, h, _ => h.elim
  | _ :: _, [], _, h, _ => h.elim
/-- a pure end: it may be handed on -/
def resX (r : TD) (T : Tb) : Option (XRes HV) := if r.1 = .N then some (.val (.pu r.2) T) else none
theorem resX_some {r : TD} {T : Tb} {q : XRes HV} (h : resX r T = some q) : r.1 = .N ∧ q = .val (.pu r.2) T := by
  unfold resX at h
  split at h
  · rename_i hh
    cases h
    exact ⟨hh, rfl⟩
  · cases h
theorem resX_ok {Z : Zc} {W : WX} {s : List Sl} {σ : L2.St} {w w1 w2 : Wd} {Q : VK} {r : TD} {T : Tb} {q : XRes HV} {v : V} (h : resX r T = some q) (l : Fin Z W s σ w (PvX Z s σ w Q) q) (g : Gs w w1) (k1 : Wok Z ⟨s, T⟩ σ w1) (g2 : Gr w1 w2) (hr : RV Z w2 r v) : Q v w2.H := by
  obtain ⟨h1, rfl⟩ := resX_some h
  obtain ⟨t, d⟩ := r
  have h1 : t = .N := h1
  subst h1
  exact l v w2 (g.trans (g2.gs k1.wf)) (k1.mono g2) hr
end Vf
namespace Vf
open PySem L2
/-! ### expressions -/
def xE (f : FE) : FX := fun env => (f env).bind fun r => resX r env.t
def xH (h : FH) : FX := fun env => (h env).map fun x => .val x env.t
def opX (o : TD → TD → Option TD) (x y : HV) (T : Tb) : Option (XRes HV) := (tdX T x).bind fun a => (tdX T y).bind fun b => (o a b).bind fun r => resX r T
def xOp (o : TD → TD → Option TD) (f g : FX) : FX := fun env => bX (f env) fun x T1 => bX (g ⟨env.s, T1⟩) fun y T2 => opX o x y T2
def unX (o : TD → Option TD) (x : HV) (T : Tb) : Option (XRes HV) := (tdX T x).bind fun a => (o a).bind fun r => resX r T
def xUn (o : TD → Option TD) (f : FX) : FX := fun env => bX (f env) (unX o)
def boolX (x : HV) : Option Bool := match x with | .pu (.bl b) => some b | _ => none
def xNotV (f : FX) : FX := fun env => bX (f env) fun x T => (boolX x).map fun b => .val (.pu (.bl (!b))) T
def xAndV (f g : FX) : FX := fun env => bX (f env) fun x T => (boolX x).bind fun b => if b then g ⟨env.s, T⟩ else some (.val (.pu (.bl false)) T)
def xOrV (f g : FX) : FX := fun env => bX (f env) fun x T => (boolX x).bind fun b => if b then some (.val (.pu (.bl true)) T) else g ⟨env.s, T⟩
def truX (T : Tb) (x : HV) : Option Bool := match x with
  | .pu d => tru (.N, d)
  | .ob k => match T[k]? with
    | some (some (.lst xs)) => some (!xs.isEmpty)
    | some (some (.tup xs)) => some (!xs.isEmpty)
    | _ => none
def xTru (f : FX) : FXT := fun env => bX (f env) fun x T => (truX T x).map fun b => .val b T
def xBl (f : FX) : FXT := fun env => bX (f env) fun x T => (boolX x).map fun b => .val b T
def xNotT (c : FXT) : FXT := fun env => bX (c env) fun b T => some (.val (!b) T)
def xAndT (c d : FXT) : FXT := fun env => bX (c env) fun b T => if b then d ⟨env.s, T⟩ else some (.val false T)
def xOrT (c d : FXT) : FXT := fun env => bX (c env) fun b T => if b then some (.val true T) else d ⟨env.s, T⟩
def xIfe (c : FXT) (f g : FX) : FX := fun env => bX (c env) fun b T => if b then f ⟨env.s, T⟩ else g ⟨env.s, T⟩
def xNil : FXA := fun env => some (.val [] env.t)
def xCons (f : FX) (g : FXA) : FXA := fun env => bX (f env) fun x T => bX (g ⟨env.s, T⟩) fun xs T2 => some (.val (x :: xs) T2)
def bK (o : List TD → Option TD) (xs : List HV) (T : Tb) : Option (XRes HV) := (mapO (tdX T) xs).bind fun rs => (o rs).bind fun r => resX r T
def xB (o : List TD → Option TD) (fa : FXA) : FX := fun env => bX (fa env) (bK o)
/-- a call of a pure def -/
def pK (g : List TD → Option TD) (xs : List HV) (T : Tb) : Option (XRes HV) := (mapO (tdX T) xs).bind fun rs => (g (rs.map dn)).bind fun r => resX (up r) T
def xCallP (g : List TD → Option TD) (fa : FXA) : FX := fun env => bX (fa env) (pK g)
section
variable {X : Cx} {cl : Str → Option Addr} {W : WX} {a b c e : Expr} {es : List Expr} {f g h : FX} {fa : FXA} {ct dt : FXT} {pos : Pos}
theorem jx_e {f : FE} (he : PE X e (tE (zx X cl) f)) : PE X e (tX (zx X cl) W (xE f)) := by
  refine pe_w he fun σ H Q ⟨env, w, r, e, k, hr, q⟩ => ?_
  subst e
  obtain ⟨x, h1, h2⟩ := Option.bind_eq_some_iff.mp hr
  exact ⟨env, w, x, rfl, k, h1, fun v w' g rv => resX_ok h2 q (Gs.refl k.wf) k g rv⟩
theorem jx_h {h : FH} (he : PE X e (tH (zx X cl) h)) : PE X e (tX (zx X cl) W (xH h)) := by
  refine pe_w he fun σ H Q ⟨env, w, r, e, k, hr, q⟩ => ?_
  subst e
  obtain ⟨x, h1, rfl⟩ := Option.map_eq_some_iff.mp hr
  exact ⟨env, w, x, rfl, k, h1, fun v w' g hv => q v w' (g.gs k.wf) (k.mono g) hv⟩
theorem xOp_rd {o : TD → TD → Option TD} {σ : L2.St} {H : Hp} {Q : VK} {Z : Zc} (hh : tX Z W (xOp o f g) σ H Q) : tOp (rO Z o) (tX Z W f) (tX Z W g) σ H Q := by
  obtain ⟨env, w, r, e, k, h, q⟩ := hh
  subst e
  show tX Z W f σ w.H _
  refine tX_bind k h q.late fun x T1 v w1 h1 g1 k1 hx => ?_
  refine tX_bind k1 h1 (q.late.mono g1) fun y T2 u w2 h2 g2 k2 hy => ?_
  obtain ⟨ra, e1, h3⟩ := Option.bind_eq_some_iff.mp h2
  obtain ⟨rb, e2, h4⟩ := Option.bind_eq_some_iff.mp h3
  obtain ⟨z, e3, h5⟩ := Option.bind_eq_some_iff.mp h4
  exact ⟨w2, ra, rb, z, rfl, k2.wf, td_rv k2.wf k2.tb (hx.mono g2.n g2.m) e1, td_rv k2.wf k2.tb hy e2, e3, fun v' w3 g3 r3 => resX_ok h5 q (g1.trans g2) k2 g3 r3⟩
theorem jx_op {op : Operator} {o : TD → TD → Option TD} (ho : OpR X (binaryOp op) (rO (zx X cl) o)) (ha : PE X a (tX (zx X cl) W f)) (hb : PE X b (tX (zx X cl) W g)) : PE X (.BinOp a op b pos) (tX (zx X cl) W (xOp o f g)) :=
  pe_w (pe_op ho ha hb) fun _ _ _ hh => xOp_rd hh
theorem jx_cmp {op : CmpOp} {o : TD → TD → Option TD} (ho : OpR X (compareOp op) (rO (zx X cl) o)) (ha : PE X a (tX (zx X cl) W f)) (hb : PE X b (tX (zx X cl) W g)) (hm : behindInMarks op b = false := by first | exact nomark _ | rfl) : PE X (.Compare a [op] [b] pos) (tX (zx X cl) W (xOp o f g)) :=
  pe_w (pe_cmpR ho ha hb hm) fun _ _ _ hh => xOp_rd hh
theorem bool_hv {Z : Zc} {w : Wd} {v : V} {x : HV} {b : Bool} (h : HvOk Z w v x) (e : boolX x = some b) : v = .bl b := by
  unfold boolX at e
  split at e
  · cases e
    exact rp_val (d := .bl _) rfl h
  · cases e
theorem tru_hv {Z : Zc} {T : Tb} {w : Wd} (hw : Wf w) (t : TbOk Z T w) {v : V} {x : HV} {b : Bool} (h : HvOk Z w v x) (e : truX T x = some b) : TruV Z.K v w.H b := by
  cases x with
  | pu d => exact tru_v (r := (.N, d)) hw e h
  | ob k =>
    unfold truX at e
    dsimp only at e
    obtain ⟨p, rfl, h1⟩ := h
    split at e
    · rename_i xs ej
      cases e
      obtain ⟨a', h2, h3, vs, h4, h5⟩ := t.at_ k _ ej
      rw [h1] at h2
      cases h2
      refine .inl ⟨vs, SqL.of h4, ?_⟩
      have hl := h5.length
      cases vs <;> cases xs <;> first | rfl | (simp at hl)
    · rename_i xs ej
      cases e
      obtain ⟨a', h2, h3, vs, h4, h5⟩ := t.at_ k _ ej
      rw [h1] at h2
      cases h2
      refine .inr (.inl ⟨vs, .of h4, ?_⟩)
      have hl := h5.length
      cases vs <;> cases xs <;> first | rfl | (simp at hl)
    · cases e
theorem jx_and1 (ha : PE X a (tX (zx X cl) W f)) : PE X (.BoolOp .And [a] pos) (tX (zx X cl) W f) := pe_one ha
/-- the rest of an expression, by its own reading -/
theorem tX_rest {Z : Zc} {s : List Sl} {σ : L2.St} {w w1 : Wd} {Q : VK} {T : Tb} {q : XRes HV} (h : f ⟨s, T⟩ = some q) (l : Fin Z W s σ w (PvX Z s σ w Q) q) (g : Gs w w1) (k : Wok Z ⟨s, T⟩ σ w1) : tX Z W f σ w1.H Q :=
  ⟨⟨s, T⟩, w1, q, rfl, k, h, (l.late.mono g).fin fun x T' e => by subst e; exact fun v w' g' k' hv => l v w' (g.trans g') k' hv⟩
theorem jx_and (ha : PE X a (tX (zx X cl) W f)) (hb : PE X (.BoolOp .And (b :: es) pos) (tX (zx X cl) W g)) : PE X (.BoolOp .And (a :: b :: es) pos) (tX (zx X cl) W (xAndV f g)) := by
  refine pe_w (pe_and ha hb) fun σ H Q ⟨env, w, r, e, k, h, q⟩ => ?_
  subst e
  refine tX_bind k h q.late fun x T1 v w1 h1 g1 k1 hx => ?_
  obtain ⟨y, e1, h2⟩ := Option.bind_eq_some_iff.mp h1
  refine ⟨y, bool_hv hx e1, ?_⟩
  cases y with
  | true => exact tX_rest h2 q g1 k1
  | false =>
    cases h2
    exact q _ w1 g1 k1 (.bl _)
/-! tests -/
theorem jxt_v (ha : PE X a (tX (zx X cl) W f)) (he : ∀ whole, isTrue a X.env whole = (do let v ← whole; standAt a.pos; holding [v] (truthy v)) := by intro _; rfl) : PT X a (tXT (zx X cl) W (xTru f)) := by
  refine pt_w (pt_truth ha he) fun σ H Q ⟨env, w, r, e, k, h, q⟩ => ?_
  subst e
  refine tX_bind k h q.late fun x T1 v w1 h1 g1 k1 hx => ?_
  obtain ⟨y, e1, rfl⟩ := Option.map_eq_some_iff.mp h1
  exact ⟨y, tru_hv k1.wf k1.tb hx e1, q w1 g1 k1⟩
theorem jxt_cmp {op : CmpOp} {o : TD → TD → Option TD} (ho : OpR X (compareOp op) (rO (zx X cl) o)) (ha : PE X a (tX (zx X cl) W f)) (hb : PE X b (tX (zx X cl) W g)) (hm : behindInMarks op b = false := by first | exact nomark _ | rfl) : PT X (.Compare a [op] [b] pos) (tXT (zx X cl) W (xBl (xOp o f g))) := by
  refine pt_w (pt_cmpR ho ha hb hm) fun σ H Q ⟨env, w, r, e, k, h, q⟩ => ?_
  subst e
  refine xOp_rd (Z := zx X cl) (Q := fun x H' => ∃ k, x = .bl k ∧ Q k H') ?_
  refine tX_bind k h q.late fun x T1 v w1 h1 g1 k1 hx => ?_
  obtain ⟨y, e1, rfl⟩ := Option.map_eq_some_iff.mp h1
  exact ⟨y, bool_hv hx e1, q w1 g1 k1⟩
theorem jxt_not (ha : PT X a (tXT (zx X cl) W ct)) : PT X (.UnaryOp .Not a pos) (tXT (zx X cl) W (xNotT ct)) := by
  refine pt_w (pt_not ha) fun σ H Q ⟨env, w, r, e, k, h, q⟩ => ?_
  subst e
  refine tXT_bind k h q.late fun x T1 w1 h1 g1 k1 => ?_
  cases h1
  exact q w1 g1 k1
theorem jxw_and1 (ha : PT X a (tXT (zx X cl) W ct)) : PW X (.BoolOp .And [a] pos) (tXT (zx X cl) W ct) := pw_and1 ha
theorem jxw_or1 (ha : PT X a (tXT (zx X cl) W ct)) : PW X (.BoolOp .Or [a] pos) (tXT (zx X cl) W ct) := pw_or1 ha
theorem tXT_rest {Z : Zc} {s : List Sl} {σ : L2.St} {w w1 : Wd} {Q : Bool → Hp → Prop} {T : Tb} {q : XRes Bool} (h : ct ⟨s, T⟩ = some q) (l : Fin Z W s σ w (PtX Z s σ w Q) q) (g : Gs w w1) (k : Wok Z ⟨s, T⟩ σ w1) : tXT Z W ct σ w1.H Q :=
  ⟨⟨s, T⟩, w1, q, rfl, k, h, (l.late.mono g).fin fun x T' e => by subst e; exact fun w' g' k' => l w' (g.trans g') k'⟩
theorem jxw_and (ha : PT X a (tXT (zx X cl) W ct)) (hb : PW X (.BoolOp .And (b :: es) pos) (tXT (zx X cl) W dt)) : PW X (.BoolOp .And (a :: b :: es) pos) (tXT (zx X cl) W (xAndT ct dt)) := by
  refine pw_w (pw_and ha hb) fun σ H Q ⟨env, w, r, e, k, h, q⟩ => ?_
  subst e
  refine tXT_bind k h q.late fun x T1 w1 h1 g1 k1 => ?_
  cases x with
  | true => exact tXT_rest h1 q g1 k1
  | false =>
    cases h1
    exact q w1 g1 k1
theorem jxw_or (ha : PT X a (tXT (zx X cl) W ct)) (hb : PW X (.BoolOp .Or (b :: es) pos) (tXT (zx X cl) W dt)) : PW X (.BoolOp .Or (a :: b :: es) pos) (tXT (zx X cl) W (xOrT ct dt)) := by
  refine pw_w (pw_or ha hb) fun σ H Q ⟨env, w, r, e, k, h, q⟩ => ?_
  subst e
  refine tXT_bind k h q.late fun x T1 w1 h1 g1 k1 => ?_
  cases x with
  | false => exact tXT_rest h1 q g1 k1
  | true =>
    cases h1
    exact q w1 g1 k1
theorem jxt_w (ha : PW X a (tXT (zx X cl) W ct)) : PT X a (tXT (zx X cl) W ct) := ha.pt
/-! arguments, calls -/
theorem jxa_nil : PA X [] (tXA (zx X cl) W xNil) := ⟨fun ps pins s σ H Q I ⟨env, w, r, e, k, hr, q⟩ => pa_nil.run ps pins s σ H Q I (by
  subst e
  cases hr
  exact q [] w (Gs.refl k.wf) k trivial)⟩
theorem jxa_cons (ha : PE X a (tX (zx X cl) W f)) (hr : PA X es (tXA (zx X cl) W fa)) (hs : starEach (a :: es) X.env = (false, eval a X.env) :: starEach es X.env := by rfl) : PA X (a :: es) (tXA (zx X cl) W (xCons f fa)) := by
  refine pa_w (pa_cons ha hr hs) fun σ H Q ⟨env, w, r, e, k, h, q⟩ => ?_
  subst e
  refine tX_bind k h q.late fun x T1 v w1 h1 g1 k1 hx => ?_
  refine tXA_bind k1 h1 (q.late.mono g1) fun xs T2 vs w2 h2 g2 k2 hxs => ?_
  cases h2
  exact q _ w2 (g1.trans g2) k2 ⟨hx.mono g2.n g2.m, hxs⟩
/-- f(..), f a pure def -/
theorem jx_callP {x : Str} {p : Pos} {ps : List Str} {gg : List TD → Option TD} {k j : Nat} (C : Ca X.prog X.w X.K X.mg X.base cl k x ps gg) (hr : Room j X.A) (ha : PA X (a :: es) (tXA (zx X cl) W fa)) (hkj : k ≤ j := by decide) (hg : Gl X x := by rfl) (hdb : (x == ("__debug__" : Str)) = false := by decide)
    (he : starEach (a :: es) X.env = (false, eval a X.env) :: starEach es X.env := by rfl) (hpl : (backTo pos (starEach es X.env)).any (·.1) = false := by rfl) : PE X (.Call (.Name x p) (a :: es) [] pos) (tX (zx X cl) W (xCallP gg fa)) := by
  obtain ⟨f, fd, F, hm, hk, hb, _⟩ := C.ex
  refine pe_w (pe_call F (hr.mono hkj) hg hm hk hb .nil pass0 ha hdb he hpl) fun σ H Q ⟨env, w, r, e, kk, h, q⟩ => ?_
  subst e
  refine tXA_bind kk h q.late fun xs T1 vs w1 h1 g1 k1 hxs => ?_
  obtain ⟨rs, e1, h2⟩ := Option.bind_eq_some_iff.mp h1
  obtain ⟨z, e2, h3⟩ := Option.bind_eq_some_iff.mp h2
  show spG (zx X cl) gg (vs ++ []) w1.H Q E0
  rw [List.append_nil]
  refine ⟨w1.N, rs.map dn, z, k1.wf.nh, dn_rvs k1.wf (tds_rv k1.wf k1.tb hxs e1), ?_, e2, C.ok _ _ e2, fun v w' g2 r2 => ?_⟩
  · rw [List.all_map, List.all_eq_true]
    exact fun x _ => dn_ok x
  · obtain ⟨w2, g3, e3, r3⟩ := up_rv k1.wf g2 (C.ok _ _ e2) r2
    rw [← e3]
    exact resX_ok h3 q g1 k1 g3 r3
end
end Vf
namespace Vf
open PySem L2
/-! ### objects of the table, defs that change it and may raise -/
theorem back_X {Z : Zc} {env : Ev} {σ : L2.St} {w1 : Wd} (k : Wok Z env σ w1) {Bc : Hp} (hB1 : ∀ a, a ∈ w1.m → Bc a = w1.B a) (hB2 : ∀ a, a ∉ w1.m → Bc a = w1.H a) {w' : Wd} (g : Gs ⟨w1.N, Bc, w1.H, w1.m⟩ w') {T' : Tb} (ht : TbOk Z T' w') :
    ∃ w2, w2.H = w'.H ∧ w2.N = w'.N ∧ w2.m = w'.m ∧ Gs w1 w2 ∧ Wok Z ⟨env.s, T'⟩ σ w2 := by
  have hbb : Same w1.B Bc := fun a o e => by
    by_cases q : a ∈ w1.m
    · rw [hB1 a q]; exact e
    · rw [hB2 a q]; exact k.wf.bh _ _ e
  have hbw : Same w1.B w'.B := hbb.trans g.b
  let B2 : Hp := fun a => match w1.B a with | some o => some o | none => w'.N a
  have b1 : Same w1.B B2 := fun a o e => by show (match w1.B a with | some o => some o | none => w'.N a) = _; rw [e]
  have b2 : Same w'.N B2 := fun a o e => by
    show (match w1.B a with | some o => some o | none => w'.N a) = _
    cases q : w1.B a with
    | none => exact e
    | some u => exact (hbw _ _ q).symm.trans (g.wf.nb _ _ e)
  have b3 : Same B2 w'.H := fun a o e => by
    have e' : (match w1.B a with | some o => some o | none => w'.N a) = some o := e
    cases q : w1.B a with
    | none => rw [q] at e'; exact g.wf.nh _ _ e'
    | some u =>
      rw [q] at e'
      cases e'
      exact g.wf.bh _ _ (hbw _ _ q)
  have nf : ∀ a, w'.N a ≠ none → w1.N a ≠ none ∨ w1.B a = none := fun a z => (g.fn a z).imp id fun q => hbb.free q
  have b0 : ∀ a, w1.B a = none → w'.N a = none → B2 a = none := fun a z1 z2 => by
    show (match w1.B a with | some o => some o | none => w'.N a) = _
    rw [z1]
    exact z2
  refine ⟨⟨w'.N, B2, w'.H, w'.m⟩, rfl, rfl, rfl, ⟨⟨b2, b3⟩, g.n, b1, nf, g.m, fun a z => (g.mf a z).imp id fun q => hbb.free q⟩, ⟨⟨b2, b3⟩, k.len, fun i s e => ?_, k.dj, ?_⟩⟩
  · obtain ⟨o, h1, h2⟩ := k.sl i s e
    refine ⟨o, h1, ?_⟩
    cases s with
    | un => exact trivial
    | val t d =>
      obtain ⟨u, e1, e2⟩ := h2
      exact ⟨u, e1, e2.imp (fun ⟨x, y⟩ => ⟨x, Rp.mono g.n y⟩) fun ⟨x, y⟩ => ⟨x, Rp.mono b1 y⟩⟩
    | han n =>
      obtain ⟨a, e1, e2⟩ := h2
      refine ⟨a, e1, ?_⟩
      obtain ⟨l, hl⟩ := g.m
      show w'.m[n]? = _
      rw [← hl, List.getElem?_append_left (List.getElem?_eq_some_iff.mp e2).1]
      exact e2
    | exo _ _ _ _ _ _ =>
      obtain ⟨us, e1, e2, e3, e4, e5⟩ := h2
      exact ⟨us, e1, e2, b1 _ _ e3, e4, RpL.mono g.n e5⟩
    | clo f F u x => exact ⟨h2.1, g.n _ _ h2.2.1, g.n _ _ h2.2.2.1, HvsOk.mono (w := w1) (w' := ⟨w'.N, B2, w'.H, w'.m⟩) g.n g.m h2.2.2.2⟩
    | own ds =>
      obtain ⟨p, vs, e1, h3, h4, h5, h6⟩ := h2
      have hb : Bc p = some (.lst vs) := (hB2 p h5).trans h3
      have hb' : w'.B p = some (.lst vs) := g.b _ _ hb
      have hn : w'.N p = none := by
        cases q : w'.N p with
        | none => rfl
        | some u =>
          rcases g.fn p (by rw [q]; exact fun z => nomatch z) with z | z
          · exact (z (k.wf.nb.free h4)).elim
          · have z : Bc p = none := z
            rw [hb] at z
            cases z
      refine ⟨p, vs, e1, g.wf.bh _ _ hb', b0 p h4 hn, fun z => ?_, RpL.mono g.n h6⟩
      rcases g.mf p z with z | z
      · exact h5 z
      · have z : Bc p = none := z
        rw [hb] at z
        cases z
  · refine ⟨ht.len, ht.nd, ht.hh, fun n M e => ?_⟩
    obtain ⟨a, h1, h2, h3⟩ := ht.at_ n M e
    exact ⟨a, h1, b0 a (hbw.free h2) (g.wf.nb.free h2), MobOk.mono (w := w') (w' := ⟨w'.N, B2, w'.H, w'.m⟩) (.refl _) (List.prefix_refl _) (fun _ z => z) h3⟩
theorem ExOk.same {Z : Zc} {w w' : Wd} {cls : Value} {d : Option Addr} {c : Str} {ns : List Str} {xs : List HV} (hH : w'.H = w.H) (hN : w'.N = w.N) (hm : w'.m = w.m) (h : ExOk Z w cls d c ns xs) : ExOk Z w' cls d c ns xs := by
  obtain ⟨C, h1, h2, h3⟩ := h
  refine ⟨C, h1, h2, h3.imp id fun ⟨dx, vs, e1, e2, e3, e4⟩ => ⟨dx, vs, e1, by rw [hH]; exact e2, e3, e4.mono (by rw [hN]; exact .refl _) (by rw [hm]; exact List.prefix_refl _)⟩⟩
/-- the promise of a def that sees the table and may raise -/
def spX (Z : Zc) (g : List HV → Tb → Option (XRes HV)) : Sp := fun vs H Q E => ∃ w xs T r, w.H = H ∧ Wf w ∧ TbOk Z T w ∧ HvsOk Z w vs xs ∧ g xs T = some r ∧
  (∀ x T', r = .val x T' → ∀ v w', Gs w w' → HvOk Z w' v x → TbOk Z T' w' → Q v w'.H) ∧ ∀ c ns ys T', r = .exc c ns ys T' → ∀ cls d w', Gs w w' → TbOk Z T' w' → ExOk Z w' cls d c ns ys → E cls d w'.H
theorem spX_at {Z : Zc} {W : WX} {σ : L2.St} {Q : VK} {env : Ev} {w : Wd} {xs : List HV} {vs : List V} {gg : List HV → Tb → Option (XRes HV)} {r : XRes HV} (k : Wok Z env σ w) (hv : HvsOk Z w vs xs) (h2 : gg xs env.t = some r) (q : Fin Z W env.s σ w (PvX Z env.s σ w Q) r) : spX Z gg vs w.H Q (WE W σ) := by
  have dec : ∀ a, Decidable (a ∈ w.m) := fun a => Classical.propDecidable _
  let Bc : Hp := fun a => if a ∈ w.m then w.B a else w.H a
  have hB1 : ∀ a, a ∈ w.m → Bc a = w.B a := fun a z => if_pos z
  have hB2 : ∀ a, a ∉ w.m → Bc a = w.H a := fun a z => if_neg z
  have wf : Wf ⟨w.N, Bc, w.H, w.m⟩ := by
    refine ⟨fun a o e => ?_, fun a o e => ?_⟩
    · by_cases z : a ∈ w.m
      · exact (hB1 a z).trans (k.wf.nb _ _ e)
      · exact (hB2 a z).trans (k.wf.nh _ _ e)
    · have e : Bc a = some o := e
      by_cases z : a ∈ w.m
      · exact k.wf.bh _ _ ((hB1 a z).symm.trans e)
      · exact (hB2 a z).symm.trans e
  have tb : TbOk Z env.t ⟨w.N, Bc, w.H, w.m⟩ := ⟨k.tb.len, k.tb.nd, k.tb.hh, fun n M e => by
    obtain ⟨a, h3, h4, h5⟩ := k.tb.at_ n M e
    exact ⟨a, h3, (hB1 a (List.mem_of_getElem? h3)).trans h4, MobOk.mono (w := w) (w' := ⟨w.N, Bc, w.H, w.m⟩) (.refl _) (List.prefix_refl _) (fun _ z => z) h5⟩⟩
  refine ⟨⟨w.N, Bc, w.H, w.m⟩, xs, env.t, r, rfl, wf, tb, HvsOk.mono (w := w) (w' := ⟨w.N, Bc, w.H, w.m⟩) (.refl _) (List.prefix_refl _) hv, h2, fun x T' e v w' g hx ht => ?_, fun c ns ys T' e cls d w' g ht hx => ?_⟩
  · subst e
    obtain ⟨w2, e2, eN, em, g2, k2⟩ := back_X k hB1 hB2 g ht
    rw [← e2]
    exact q v w2 g2 k2 (HvOk.mono (by rw [eN]; exact .refl _) (by rw [em]; exact List.prefix_refl _) hx)
  · subst e
    obtain ⟨w2, e2, eN, em, g2, k2⟩ := back_X k hB1 hB2 g ht
    show W cls d σ w'.H
    rw [← e2]
    exact q cls d w2 g2 k2 (hx.same e2 eN em)
structure CaX (P : Program) (w : World) (K : PySem.W.Frag) (mg : Str → Option Value) (base : Heap) (cl : Str → Option Addr) (k : Nat) (x : Str) (ps : List Str) (g : List HV → Tb → Option (XRes HV)) : Prop where
  ex : ∃ f fd, FnOk P w K mg base (L2N.CX P w) k f fd ps (spX ⟨K, cl⟩ g) ∧ mg x = some (.ref f) ∧ PySem.W.keepIn K (.ref f) = true ∧ Binds K fd ps []
def xCall (g : List HV → Tb → Option (XRes HV)) (fa : FXA) : FX := fun env => bX (fa env) g
/-- a new object of the table -/
theorem new_ok {Z : Zc} {s : List Sl} {T : Tb} {σ : L2.St} {w : Wd} (k : Wok Z ⟨s, T⟩ σ w) {p : Addr} {o : HO} {M : Mob} (hp : w.H p = none) (hM : MobOk Z ⟨w.N, w.B, upd w.H p o, w.m⟩ p M) :
    ∃ w2, w2.H = upd w.H p o ∧ Gs w w2 ∧ Wok Z ⟨s, T ++ [some M]⟩ σ w2 ∧ HvOk Z w2 (.ref p) (.ob T.length) := by
  have gH : Same w.H (upd w.H p o) := same_up hp
  have g2 : Gr w ⟨w.N, w.B, upd w.H p o, w.m⟩ := ⟨⟨k.wf.nb, k.wf.bh.trans gH⟩, .refl _, .refl _, gH, fun _ z => .inl z, fun _ z => .inl z, rfl⟩
  obtain ⟨k2, g3⟩ := k.tnew g2 (p := p) (o := o) (M := M) hp upd_same (k.wf.bh.free hp) hM
  refine ⟨_, rfl, g3, k2, p, rfl, ?_⟩
  have hlen := k.tb.len
  have hlen : T.length = w.m.length := hlen
  show (w.m ++ [p])[T.length]? = _
  rw [hlen, List.getElem?_append_right (Nat.le_refl _)]
  simp
def tupK (xs : List HV) (T : Tb) : Option (XRes HV) := if xs.length ≤ lim then (match pures xs with
  | some ds => some (.val (.pu (.tup ds)) T)
  | none => some (.val (.ob T.length) (T ++ [some (.tup xs)]))) else none
def xTup (fa : FXA) : FX := fun env => bX (fa env) tupK
def lstK (xs : List HV) (T : Tb) : Option (XRes HV) := if xs.length ≤ lim then some (.val (.ob T.length) (T ++ [some (.lst xs)])) else none
def xLst (fa : FXA) : FX := fun env => bX (fa env) lstK
def fldX (cs : List Str) (n : Str) (x : HV) (T : Tb) : Option (XRes HV) := match x with
  | .pu (.ins c fs ds) => if c ∈ cs then ((fs.zip ds).lookup n).map fun d => .val (.pu d) T else none
  | .pu _ => none
  | .ob k => match T[k]? with
    | some (some (.ins c fs xs)) => if c ∈ cs then ((fs.zip xs).lookup n).map fun y => .val y T else none
    | _ => none
def xFld (cs : List Str) (n : Str) (f : FX) : FX := fun env => bX (f env) (fldX cs n)
def ixX (T : Tb) (x : HV) (i : Int) : Option HV := match x with
  | .pu d => (ixD (.N, d) i).bind fun r => if r.1 = .N then some (.pu r.2) else none
  | .ob k => match T[k]? with
    | some (some (.lst xs)) => atI xs i
    | some (some (.tup xs)) => atI xs i
    | some (some (.dic ks xs)) => dgt ks xs (.inl i)
    | _ => none
def ixXS (T : Tb) (x : HV) (z : Str) : Option HV := match x with
  | .pu d => (ixS (.N, d) z).bind fun r => if r.1 = .N then some (.pu r.2) else none
  | .ob k => match T[k]? with
    | some (some (.dic ks xs)) => dgt ks xs (.inr z)
    | _ => none
def ixA (T : Tb) (x : HV) (y : D) : Option HV := match y with
  | .int i => ixX T x i
  | .str z => ixXS T x z
  | _ => none
def ixK (x y : HV) (T : Tb) : Option (XRes HV) := match y with
  | .pu (.int i) => (ixX T x i).map fun z => .val z T
  | .pu (.str i) => (ixXS T x i).map fun z => .val z T
  | _ => none
def xIx (f g : FX) : FX := fun env => bX (f env) fun x T1 => bX (g ⟨env.s, T1⟩) fun y T2 => ixK x y T2
section
variable {X : Cx} {cl : Str → Option Addr} {W : WX} {a b c e : Expr} {es : List Expr} {f g h : FX} {fa : FXA} {ct dt : FXT} {pos : Pos} {gg : List HV → Tb → Option (XRes HV)} {ps : List Str} {k j : Nat}
theorem jx_call {x : Str} {p : Pos} (C : CaX X.prog X.w X.K X.mg X.base cl k x ps gg) (tk : L2N.Takes X W) (hr : Room j X.A) (ha : PA X (a :: es) (tXA (zx X cl) W fa)) (hkj : k ≤ j := by decide) (hg : Gl X x := by rfl) (hdb : (x == ("__debug__" : Str)) = false := by decide)
    (he : starEach (a :: es) X.env = (false, eval a X.env) :: starEach es X.env := by rfl) (hpl : (backTo pos (starEach es X.env)).any (·.1) = false := by rfl) : PE X (.Call (.Name x p) (a :: es) [] pos) (tX (zx X cl) W (xCall gg fa)) := by
  obtain ⟨f, fd, F, hm, hk, hb⟩ := C.ex
  refine pe_w (pe_callS F (hr.mono hkj) hg hm hk hb (fun σ => L2N.passAt tk σ) ha hdb he hpl) fun σ H Q ⟨env, w, r, e, kk, h, q⟩ => ?_
  subst e
  refine tXA_bind kk h q.late fun xs T1 vs w1 h1 g1 k1 hxs => ?_
  exact spX_at k1 hxs h1 ((q.late.mono g1).fin fun x T' e => by subst e; exact fun v w' g' k' hv => q v w' (g1.trans g') k' hv)
theorem jx_tup {x1 : Nat} (h : PA X es (tXA (zx X cl) W fa)) : PE X (.Tuple es x1 pos) (tX (zx X cl) W (xTup fa)) := by
  refine pe_w (pe_tup h) fun σ H Q ⟨env, w, r, e, kk, h, q⟩ => ?_
  subst e
  refine tXA_bind kk h q.late fun xs T1 vs w1 h1 g1 k1 hxs => ?_
  unfold tupK at h1
  split at h1
  · rename_i hl
    refine ⟨lim_le (by rw [hxs.length]; exact hl), fun p hp => ?_⟩
    split at h1
    · rename_i ds hd
      cases h1
      have hr := pures_rp hxs hd
      have := q (.ref p) (w1.put .N p (.tup vs)) (g1.trans ((Gr.put k1.wf hp).gs k1.wf)) (k1.mono (Gr.put k1.wf hp)) (new_tup (t := .N) k1.wf (by decide) hp hr)
      rw [put_H] at this
      exact this
    · cases h1
      obtain ⟨w2, e2, g2, k2, hx⟩ := new_ok k1 (o := .tup vs) (M := .tup xs) hp ⟨vs, upd_same, HvsOk.mono (w := w1) (w' := ⟨w1.N, w1.B, upd w1.H p (.tup vs), w1.m⟩) (.refl _) (List.prefix_refl _) hxs⟩
      rw [← e2]
      exact q _ w2 (g1.trans g2) k2 hx
  · cases h1
theorem jx_lst (h : PA X es (tXA (zx X cl) W fa)) : PE X (.List es pos) (tX (zx X cl) W (xLst fa)) := by
  refine pe_w (pe_lst h) fun σ H Q ⟨env, w, r, e, kk, h, q⟩ => ?_
  subst e
  refine tXA_bind kk h q.late fun xs T1 vs w1 h1 g1 k1 hxs => ?_
  unfold lstK at h1
  split at h1
  · rename_i hl
    refine ⟨lim_le (by rw [hxs.length]; exact hl), fun p hp => ?_⟩
    cases h1
    obtain ⟨w2, e2, g2, k2, hx⟩ := new_ok k1 (o := .lst vs) (M := .lst xs) hp ⟨vs, upd_same, HvsOk.mono (w := w1) (w' := ⟨w1.N, w1.B, upd w1.H p (.lst vs), w1.m⟩) (.refl _) (List.prefix_refl _) hxs⟩
    rw [← e2]
    exact q _ w2 (g1.trans g2) k2 hx
  · cases h1
theorem dgt_hv {Z : Zc} {w : Wd} : ∀ {ks : List Key} {vs : List V} {xs : List HV} {q : Key} {x : HV}, HvsOk Z w vs xs → dgt ks xs q = some x → ∃ v, dgt ks vs q = some v ∧ HvOk Z w v x
  | [], _, _, _, _, _, h => by cases h
  | _ :: _, [], [], _, _, _, h => by cases h
  | k :: ks, v :: vs, y :: xs, q, x, ⟨h, r⟩, e => by
    unfold dgt at e ⊢
    by_cases c : k = q
    · rw [if_pos c] at e ⊢; cases e; exact ⟨_, rfl, h⟩
    · rw [if_neg c] at e ⊢; exact dgt_hv r e
  | _ :: _, [], _ :: _, _, _, h, _ => h.elim
  | _ :: _, _ :: _, [], _, _, h, _ => h.elim
def rIX (Z : Zc) : R2 := fun x y H Q => ∃ w T a d z, w.H = H ∧ Wf w ∧ TbOk Z T w ∧ HvOk Z w x a ∧ HvOk Z w y (.pu d) ∧ ixA T a d = some z ∧ ∀ v w', Gr w w' → HvOk Z w' v z → Q v w'.H
theorem ixA_pu {T : Tb} {d y : D} {z : HV} (h : ixA T (.pu d) y = some z) : ∃ r, oIx (.N, d) (.N, y) = some (.N, r) ∧ z = .pu r := by
  have key : ∀ o : Option TD, (o.bind fun r => if r.1 = .N then some (HV.pu r.2) else none) = some z → ∃ r, o = some (.N, r) ∧ z = .pu r := fun o h => by
    obtain ⟨⟨t, r⟩, h1, h2⟩ := Option.bind_eq_some_iff.mp h
    dsimp only at h2
    split at h2
    · rename_i ht; subst ht; cases h2; exact ⟨r, h1, rfl⟩
    · cases h2
  cases y <;> first | exact key _ h | cases h
theorem ix_x (hX : XS X) : IxR X (rIX (zx X cl)) := by
  rintro value slice pins s σ H x y v u Q I rx ry ⟨w, T, a, y', z, eH, hw, ht, hx, hy, ho, q⟩ hs
  subst eH
  cases a with
  | pu d =>
    obtain ⟨r, h1, rfl⟩ := ixA_pu ho
    exact ix_d (cl := cl) hX value slice pins s σ _ _ _ v u Q I rx ry ⟨w, (.N, d), (.N, y'), _, rfl, hw, hx, hy, h1, fun v w' g rv => q v w' g rv⟩ hs
  | ob k =>
    obtain ⟨p, rfl, h3⟩ := hx
    have dic : ∀ {ks : List Key} {xs : List HV} {kk : Key}, T[k]? = some (some (.dic ks xs)) → keyD y' = some kk → dgt ks xs kk = some z → wpAny (model X.prog X.w) X.A (PyProof.Rows.subscriptTail value slice v u) (EP X pins σ Q) X.xe s := fun {ks xs kk} ej hk hd => by
      obtain ⟨p', h4, h5, vs, h6, h7, h8⟩ := ht.at_ _ _ ej
      rw [h3] at h4
      cases h4
      obtain ⟨s1, s2⟩ := keyD_v hk
      obtain rfl := rp_val s1 hy
      obtain ⟨v0, h9, h10⟩ := dgt_hv h8 hd
      exact ix_dict hX value slice pins s σ _ _ _ v u Q I rx ry ⟨p, v0, rfl, .inl ⟨_, kk, .inl h6, s2, by rw [dgt_val, h9]⟩, q v0 w (Gr.refl hw) h10⟩ hs
    unfold ixA at ho
    split at ho
    · rename_i i
      unfold ixX at ho
      dsimp only at ho
      obtain rfl := rp_val (d := .int i) rfl hy
      split at ho
      · rename_i xs ej
        obtain ⟨p', h4, h5, vs, h6, h7⟩ := ht.at_ _ _ ej
        rw [h3] at h4
        cases h4
        obtain ⟨v0, h8, h9⟩ := atI_hv h7 ho
        exact ix_list value slice pins s σ _ _ _ v u Q I rx ry ⟨p, vs, i, v0, rfl, rfl, SqL.of h6, h8, q v0 w (Gr.refl hw) h9⟩ hs
      · rename_i xs ej
        obtain ⟨p', h4, h5, vs, h6, h7⟩ := ht.at_ _ _ ej
        rw [h3] at h4
        cases h4
        obtain ⟨v0, h8, h9⟩ := atI_hv h7 ho
        exact ix_tup value slice pins s σ _ _ _ v u Q I rx ry ⟨p, vs, i, v0, rfl, rfl, .of h6, h8, q v0 w (Gr.refl hw) h9⟩ hs
      · rename_i ks xs ej
        exact dic ej rfl ho
      · cases ho
    · unfold ixXS at ho
      dsimp only at ho
      split at ho
      · rename_i ks xs ej
        exact dic ej rfl ho
      · cases ho
    · cases ho
theorem jx_ix (hX : XS X) (ha : PE X a (tX (zx X cl) W f)) (hb : PE X b (tX (zx X cl) W g)) (hs : PlainIx b := by exact fun _ _ => rfl) : PE X (.Subscript a b pos) (tX (zx X cl) W (xIx f g)) := by
  refine pe_w (pe_ix (ix_x (cl := cl) hX) ha hb hs) fun σ H Q ⟨env, w, r, e, kk, h, q⟩ => ?_
  subst e
  refine tX_bind kk h q.late fun x T1 v w1 h1 g1 k1 hx => ?_
  refine tX_bind k1 h1 (q.late.mono g1) fun y T2 u w2 h2 g2 k2 hy => ?_
  have key : ∀ (d : D), HvOk (zx X cl) w2 u (.pu d) → (ixA T2 x d).map (fun z => XRes.val z T2) = some r → rIX (zx X cl) v u w2.H Q := fun d hd h => by
    obtain ⟨z, h3, rfl⟩ := Option.map_eq_some_iff.mp h
    exact ⟨w2, T2, x, d, z, rfl, k2.wf, k2.tb, hx.mono g2.n g2.m, hd, h3, fun v' w3 g3 hv => q v' w3 ((g1.trans g2).trans (g3.gs k2.wf)) (k2.mono g3) hv⟩
  unfold ixK at h2
  split at h2
  · exact key _ hy h2
  · exact key _ hy h2
  · cases h2
/-! methods of lists that stand in the table -/
def lmK (m : List HV → List HV → Option (HV × List HV)) (x : HV) (xs : List HV) (T : Tb) : Option (XRes HV) := (obLst T x).bind fun q => (m q.2 xs).map fun r => .val r.1 (T.set q.1 (some (.lst r.2)))
def isLst (T : Tb) (x : HV) : Option Unit := (obLst T x).map fun _ => ()
def xLm (m : List HV → List HV → Option (HV × List HV)) (f : FX) (fa : FXA) : FX := fun env => bX (f env) fun x T1 => (isLst T1 x).bind fun _ => bX (fa ⟨env.s, T1⟩) fun xs T2 => lmK m x xs T2
/-- a method as its rule tells it -/
def LmOk (m : List HV → List HV → Option (HV × List HV)) (r : V → List V → Hp → VK → Prop) : Prop :=
  ∀ (Z : Zc) (w : Wd) (l : Addr) (ys as : List V) (yh ah : List HV) (res : HV) (new : List HV), HvsOk Z w ys yh → HvsOk Z w as ah → m yh ah = some (res, new) →
    ∃ rv nv, HvOk Z w rv res ∧ HvsOk Z w nv new ∧ ∀ (Q : VK) (H : Hp), H l = some (.lst ys) → Q rv (upd H l (.lst nv)) → r (.ref l) as H Q
theorem lm_end {Z : Zc} {s : List Sl} {σ : L2.St} {w w2 : Wd} {T2 : Tb} {Q : VK} {m : List HV → List HV → Option (HV × List HV)} {r : V → List V → Hp → VK → Prop} (hr : LmOk m r) {x : HV} {v : V} {xs : List HV} {vs : List V} {q : XRes HV}
    (h2 : lmK m x xs T2 = some q) (l : Fin Z W s σ w (PvX Z s σ w Q) q) (g : Gs w w2) (k2 : Wok Z ⟨s, T2⟩ σ w2) (hx : HvOk Z w2 v x) (hxs : HvsOk Z w2 vs xs) : r v vs w2.H Q := by
  obtain ⟨⟨j, yh⟩, h3, h4⟩ := Option.bind_eq_some_iff.mp h2
  obtain ⟨⟨res, new⟩, h5, rfl⟩ := Option.map_eq_some_iff.mp h4
  obtain ⟨rfl, ej⟩ := obLst_some h3
  obtain ⟨p, ys, rfl, h6, h7, h8, h9⟩ := ob_lst k2.tb hx ej
  obtain ⟨rv, nv, h10, h11, h12⟩ := hr Z w2 p ys vs yh xs res new h9 hxs h5
  obtain ⟨k3, g3⟩ := k2.tset (M := .lst new) (o := .lst nv) ej h6 h7 ⟨nv, upd_same, HvsOk.mono (w := w2) (w' := ⟨w2.N, w2.B, upd w2.H p (.lst nv), w2.m⟩) (.refl _) (List.prefix_refl _) h11⟩
  exact h12 Q w2.H h8 (l rv _ (g.trans g3) k3 (HvOk.mono (w := w2) (w' := ⟨w2.N, w2.B, upd w2.H p (.lst nv), w2.m⟩) (.refl _) (List.prefix_refl _) h10))
theorem isLst_ty {Z : Zc} {T : Tb} {w : Wd} (t : TbOk Z T w) {x : HV} {v : V} (hx : HvOk Z w v x) (h : isLst T x = some ()) : ∃ p vs, v = .ref p ∧ w.H p = some (.lst vs) := by
  obtain ⟨⟨j, yh⟩, h3, _⟩ := Option.map_eq_some_iff.mp h
  obtain ⟨rfl, ej⟩ := obLst_some h3
  obtain ⟨p, ys, rfl, h6, h7, h8, h9⟩ := ob_lst t hx ej
  exact ⟨p, ys, rfl, h8⟩
theorem jx_lm {m : List HV → List HV → Option (HV × List HV)} {r : V → List V → Hp → VK → Prop} {o : Expr} {name : Str} {id : String} {apos : Pos} (slot : Slot "list" name id) (ty : typeOf (.builtin id) = pure (.type "method_descriptor")) (hm : MtR X id r) (hr : LmOk m r) (ho : PE X o (tX (zx X cl) W f)) (ha : PA X (a :: es) (tXA (zx X cl) W fa))
    (hbase : attributeBase o name X.env (eval o X.env) = eval o X.env := by rfl) (hline : (apos.endLine == pos.line) = true := by rfl) (hs : starEach (a :: es) X.env = (false, eval a X.env) :: starEach es X.env := by rfl)
    (hfew : ((backTo pos (starEach (a :: es) X.env)).all (fun x => !x.1) && (backToKw pos (keywordEach [] X.env)).all (fun x => x.1.isSome) && decide ((a :: es).length + ([] : List Keyword).length + (if ([] : List Keyword).isEmpty then 0 else 1) < 30)) = true := by rfl) (hpl : (backTo pos (starEach es X.env)).any (·.1) = false := by rfl) :
    PE X (.Call (.Attribute o name apos) (a :: es) [] pos) (tX (zx X cl) W (xLm m f fa)) := by
  refine pe_w (pe_bm PySem.F.plainAttrs_list slot ty hm ho ha hbase hfew hline hs hpl) fun σ H Q ⟨env, w, q, e, kk, h, l⟩ => ?_
  subst e
  refine tX_bind kk h l.late fun x T1 v w1 h1 g1 k1 hx => ?_
  obtain ⟨u, hu, h1⟩ := Option.bind_eq_some_iff.mp h1
  obtain ⟨p, vs0, rfl, hp⟩ := isLst_ty k1.tb hx hu
  refine ⟨.inl ⟨rfl, _, SqL.of hp⟩, ?_⟩
  refine tXA_bind k1 h1 (l.late.mono g1) fun xs T2 vs w2 h2 g2 k2 hxs => ?_
  exact lm_end hr h2 l (g1.trans g2) k2 (hx.mono g2.n g2.m) hxs
end
def mApp (ys as : List HV) : Option (HV × List HV) := match as with | [a] => if ys.length ≤ lim then some (.pu .non, ys ++ [a]) else none | _ => none
noncomputable def mIns (ys as : List HV) : Option (HV × List HV) := match as with | [.pu (.int i), y] => cif (ys.length ≤ lim ∧ 0 ≤ i ∧ i < 4611686018427387904) (some (.pu .non, ys.take i.toNat ++ [y] ++ ys.drop i.toNat)) none | _ => none
theorem HvsOk.one {Z : Zc} {w : Wd} {vs : List V} {x : HV} (h : HvsOk Z w vs [x]) : ∃ v, vs = [v] ∧ HvOk Z w v x := by
  match vs, h with
  | [v], ⟨h, _⟩ => exact ⟨v, rfl, h⟩
theorem HvsOk.reverse {Z : Zc} {w : Wd} : ∀ {vs : List V} {xs : List HV}, HvsOk Z w vs xs → HvsOk Z w vs.reverse xs.reverse
  | [], [], _ => trivial
  | v :: vs, x :: xs, ⟨h, r⟩ => by
    rw [List.reverse_cons, List.reverse_cons]
    exact r.reverse.app ⟨h, trivial⟩
  | [], _ :: _, h => h.elim
  | _ :: _, [], h => h.elim
theorem HvsOk.take {Z : Zc} {w : Wd} : ∀ {vs : List V} {xs : List HV} (k : Nat), HvsOk Z w vs xs → HvsOk Z w (vs.take k) (xs.take k)
  | [], [], _, _ => by simp [HvsOk]
  | v :: vs, x :: xs, 0, ⟨h, r⟩ => trivial
  | v :: vs, x :: xs, k + 1, ⟨h, r⟩ => ⟨h, r.take k⟩
  | [], _ :: _, _, h => h.elim
  | _ :: _, [], _, h => h.elim
theorem HvsOk.drop {Z : Zc} {w : Wd} : ∀ {vs : List V} {xs : List HV} (k : Nat), HvsOk Z w vs xs → HvsOk Z w (vs.drop k) (xs.drop k)
  | [], [], _, _ => by simp [HvsOk]
  | v :: vs, x :: xs, 0, h => h
  | v :: vs, x :: xs, k + 1, ⟨h, r⟩ => r.drop k
  | [], _ :: _, _, h => h.elim
  | _ :: _, [], _, h => h.elim
theorem lm_app : LmOk mApp rAppend := by
  intro Z w l ys as yh ah res new hy ha hm
  unfold mApp at hm
  split at hm
  · split at hm
    · rename_i a hl
      cases hm
      obtain ⟨v, rfl, hv⟩ := ha.one
      exact ⟨.non, ys ++ [v], .non, hy.app ⟨hv, trivial⟩, fun Q H hH hQ => ⟨l, ys, v, rfl, rfl, hH, lim_lt (by rw [hy.length]; exact hl), hQ⟩⟩
    · cases hm
  · cases hm
end Vf
namespace Vf
open PySem L2
/-! ### statements that change the table and may raise -/
inductive OutX where | nx (e : Ev) | rt (x : HV) (T : Tb) | bk (e : Ev) | ct (e : Ev) | ex (c : Str) (ns : List Str) (xs : List HV) (e : Ev)
abbrev SX := Ev → Option OutX
def OutXOk (Z : Zc) (W : WX) (D : Ends) (w : Wd) : OutX → Prop
  | .nx e => ∀ σ' w', Gs w w' → Wok Z e σ' w' → D.nx σ' w'.H
  | .rt x T => ∀ v w', Gs w w' → HvOk Z w' v x → TbOk Z T w' → D.rt v w'.H
  | .bk e => ∀ σ' w', Gs w w' → Wok Z e σ' w' → D.bk σ' w'.H
  | .ct e => ∀ σ' w', Gs w w' → Wok Z e σ' w' → D.ct σ' w'.H
  | .ex c ns xs e => ∀ cls d σ' w', Gs w w' → Wok Z e σ' w' → ExOk Z w' cls d c ns xs → W cls d σ' w'.H
def tSX (Z : Zc) (W : WX) (f : SX) : TS := fun D σ H => ∃ env w out, w.H = H ∧ Wok Z env σ w ∧ f env = some out ∧ OutXOk Z W D w out
theorem OutXOk.mono {Z : Zc} {W : WX} {D : Ends} {w w' : Wd} (g : Gs w w') {out : OutX} (h : OutXOk Z W D w out) : OutXOk Z W D w' out := by
  cases out with
  | nx _ => exact fun σ' w2 g2 => h σ' w2 (g.trans g2)
  | rt _ _ => exact fun v w2 g2 => h v w2 (g.trans g2)
  | bk _ => exact fun σ' w2 g2 => h σ' w2 (g.trans g2)
  | ct _ => exact fun σ' w2 g2 => h σ' w2 (g.trans g2)
  | ex _ _ _ _ => exact fun cls d σ' w2 g2 => h cls d σ' w2 (g.trans g2)
/-- an expression's end, then what follows -/
def kS {α : Type} (s : List Sl) (k : α → Tb → Option OutX) : XRes α → Option OutX
  | .val x T => k x T
  | .exc c ns xs T => some (.ex c ns xs ⟨s, T⟩)
def bS {α : Type} (env : Ev) (o : Option (XRes α)) (k : α → Tb → Option OutX) : Option OutX := o.bind (kS env.s k)
section
variable {α : Type} {Z : Zc} {W : WX} {D : Ends} {σ : L2.St} {w w' : Wd} {env : Ev} {out : OutX}
theorem bS_fin {o : Option (XRes α)} {k : α → Tb → Option OutX} {P : α → Tb → Prop} (h : bS env o k = some out) (q : OutXOk Z W D w out) (hv : ∀ x T, k x T = some out → P x T) : ∃ r, o = some r ∧ Fin Z W env.s σ w P r := by
  obtain ⟨r, h1, h2⟩ := Option.bind_eq_some_iff.mp h
  cases r with
  | val x T => exact ⟨_, h1, hv x T h2⟩
  | exc c ns xs T =>
    cases h2
    exact ⟨_, h1, fun cls d w' g k e => q cls d σ w' g k e⟩
theorem tX_then {f : FX} {k : HV → Tb → Option OutX} {Q : VK} (kk : Wok Z env σ w) (h : bS env (f env) k = some out) (q : OutXOk Z W D w out)
    (hq : ∀ x T v w1, k x T = some out → Gs w w1 → Wok Z ⟨env.s, T⟩ σ w1 → HvOk Z w1 v x → Q v w1.H) : tX Z W f σ w.H Q := by
  obtain ⟨r, h1, h2⟩ := bS_fin (P := PvX Z env.s σ w Q) h q fun x T hk v w1 g k1 hx => hq x T v w1 hk g k1 hx
  exact ⟨env, w, r, rfl, kk, h1, h2⟩
theorem tXT_then {f : FXT} {k : Bool → Tb → Option OutX} {Q : Bool → Hp → Prop} (kk : Wok Z env σ w) (h : bS env (f env) k = some out) (q : OutXOk Z W D w out)
    (hq : ∀ x T w1, k x T = some out → Gs w w1 → Wok Z ⟨env.s, T⟩ σ w1 → Q x w1.H) : tXT Z W f σ w.H Q := by
  obtain ⟨r, h1, h2⟩ := bS_fin (P := PtX Z env.s σ w Q) h q fun x T hk w1 g k1 => hq x T w1 hk g k1
  exact ⟨env, w, r, rfl, kk, h1, h2⟩
end
def zNx : SX := fun env => some (.nx env)
def zThen (b : SX) : OutX → Option OutX | .nx e => b e | o => some o
def zSeq (a b : SX) : SX := fun env => (a env).bind (zThen b)
def liftO : Out → Option OutX
  | .nx e => some (.nx e) | .bk e => some (.bk e) | .ct e => some (.ct e) | .rth x T => some (.rt x T) | .rt _ => none
def zLift (f : FS) : SX := fun env => (f env).bind liftO
def setZ (i : Nat) (s : List Sl) (x : HV) (T : Tb) : Option OutX := (setHS i x ⟨s, T⟩).map .nx
def zSet (i : Nat) (f : FX) : SX := fun env => bS env (f env) (setZ i env.s)
def zRet (f : FX) : SX := fun env => bS env (f env) fun x T => some (.rt x T)
def zDo (f : FX) : SX := fun env => bS env (f env) fun _ T => some (.nx ⟨env.s, T⟩)
def zIf (c : FXT) (a b : SX) : SX := fun env => bS env (c env) fun k T => if k then a ⟨env.s, T⟩ else b ⟨env.s, T⟩
def stoZ (cs : List Str) (n : Str) (s : List Sl) (x y : HV) (T : Tb) : Option OutX := match y with
  | .ob k => match T[k]? with
    | some (some (.ins c fs xs)) => if c ∈ cs ∧ fs.length < 1000 then some (.nx ⟨s, T.set k (some (.ins c (putG n x fs xs).1 (putG n x fs xs).2))⟩) else none
    | _ => none
  | .pu _ => none
def zSto (cs : List Str) (n : Str) (o v : FX) : SX := fun env => bS env (v env) fun x T1 => bS env (o ⟨env.s, T1⟩) fun y T2 => stoZ cs n env.s x y T2
/-- a dict's keys and values behind d[k] = x -/
def dput {α : Type} : List Key → List α → Key → α → List Key × List α
  | k :: ks, y :: ys, q, x => if k = q then (k :: ks, x :: ys) else (k :: (dput ks ys q x).1, y :: (dput ks ys q x).2)
  | _, _, q, x => ([q], [x])
def obDic (T : Tb) (x : HV) : Option (Nat × List Key × List HV) := match x with
  | .ob k => match T[k]? with
    | some (some (.dic ks xs)) => some (k, ks, xs)
    | _ => none
  | .pu _ => none
def keyH : HV → Option Key | .pu d => keyD d | .ob _ => none
def putL (s : List Sl) (x y i : HV) (T : Tb) : Option OutX := (obLst T y).bind fun q => match i with
  | .pu (.int i) => (ixN q.2.length i).map fun j => .nx ⟨s, T.set q.1 (some (.lst (q.2.set j x)))⟩
  | _ => none
noncomputable def putD (s : List Sl) (x y i : HV) (T : Tb) : Option OutX := (obDic T y).bind fun q => (keyH i).bind fun k => cif (q.2.1.length ≤ lim ∧ q.2.1.Nodup) (some (.nx ⟨s, T.set q.1 (some (.dic (dput q.2.1 q.2.2 k x).1 (dput q.2.1 q.2.2 k x).2))⟩)) none
noncomputable def putZ (s : List Sl) (x y i : HV) (T : Tb) : Option OutX := match obDic T y with
  | some _ => putD s x y i T
  | none => putL s x y i T
noncomputable def zPut (o i v : FX) : SX := fun env => bS env (v env) fun x T1 => bS env (o ⟨env.s, T1⟩) fun y T2 => bS env (i ⟨env.s, T2⟩) fun j T3 => putZ env.s x y j T3
section
variable {X : Cx} {cl : Str → Option Addr} {W : WX} {a b c e o value i : Expr} {es : List Expr} {f g h : FX} {fa : FXA} {ct dt : FXT} {pos pos' : Pos} {A B : SX} {st : Stmt} {rest body orelse : List Stmt}
theorem jz_nil : PSs X [] (tSX (zx X cl) W zNx) := by
  refine pss_w pss_nil fun D σ H ⟨env, w, out, e, k, hr, q⟩ => ?_
  subst e
  cases hr
  exact q σ w (Gs.refl k.wf) k
theorem jz_cons (h1 : PS X st (tSX (zx X cl) W A)) (h2 : PSs X rest (tSX (zx X cl) W B)) : PSs X (st :: rest) (tSX (zx X cl) W (zSeq A B)) := by
  refine pss_w (pss_cons h1 h2) fun D σ H ⟨env, w, out, e, k, hr, q⟩ => ?_
  subst e
  obtain ⟨o, h3, h4⟩ := Option.bind_eq_some_iff.mp hr
  refine ⟨env, w, o, rfl, k, h3, ?_⟩
  cases o with
  | nx e' => exact fun σ' w' g' k' => ⟨e', w', out, rfl, k', h4, q.mono g'⟩
  | rt x T => cases h4; exact q
  | bk e' => cases h4; exact q
  | ct e' => cases h4; exact q
  | ex c ns xs e' => cases h4; exact q
theorem jz_one (h1 : PS X st (tSX (zx X cl) W A)) : PSs X [st] (tSX (zx X cl) W A) := by
  refine pss_w (jz_cons h1 jz_nil) fun D σ H ⟨env, w, out, e, k, hr, q⟩ => ⟨env, w, out, e, k, ?_, q⟩
  unfold zSeq
  rw [hr]
  cases out <;> rfl
theorem jz_lift {f : FS} (h1 : PS X st (tS (zx X cl) f)) : PS X st (tSX (zx X cl) W (zLift f)) := by
  refine ps_w h1 fun D σ H ⟨env, w, out, e, k, hr, q⟩ => ?_
  obtain ⟨o, h3, h4⟩ := Option.bind_eq_some_iff.mp hr
  refine ⟨env, w, o, e, k, h3, ?_⟩
  cases o with
  | nx e' => cases h4; exact q
  | rt x => cases h4
  | bk e' => cases h4; exact q
  | ct e' => cases h4; exact q
  | rth x T => cases h4; exact q
theorem jz_set (i : Nat) {x : Str} {p' : Pos} (hX : XS X) (he : PE X e (tX (zx X cl) W f)) (hi : X.N[i]? = some x := by rfl) (hx : Loc X.env.scope x := by first | exact Or.inl rfl | exact Or.inr rfl) (hs : swapsWith e (some (.Name x p')) pos.line X.env = pure false := by rfl)
    (hf : X.fn x = true ∨ X.env.scope.names.lookup x = some .local := by first | exact .inl rfl | exact .inr rfl) : PS X (.Assign [.Name x p'] e pos) (tSX (zx X cl) W (zSet i f)) := by
  refine ps_w (ps_set hX.nd hi hx he hs hf) fun D σ H ⟨env, w, out, e, k, hr, q⟩ => ?_
  subst e
  refine tX_then k hr q fun x T v w1 h1 g1 k1 hx => ?_
  obtain ⟨e', h2, rfl⟩ := Option.map_eq_some_iff.mp h1
  exact q _ w1 g1 (setHS_ok k1 h2 hx)
theorem jz_ret (he : PE X e (tX (zx X cl) W f)) : PS X (.Return (some e) pos) (tSX (zx X cl) W (zRet f)) := by
  refine ps_w (ps_ret he) fun D σ H ⟨env, w, out, e, k, hr, q⟩ => ?_
  subst e
  refine tX_then k hr q fun x T v w1 h1 g1 k1 hx => ?_
  cases h1
  exact q v w1 g1 hx k1.tb
theorem jz_do (he : PE X e (tX (zx X cl) W f)) (hs : swapsWith e none pos.line X.env = pure false := by rfl) : PS X (.Expr e pos) (tSX (zx X cl) W (zDo f)) := by
  refine ps_w (ps_expr he hs) fun D σ H ⟨env, w, out, e, k, hr, q⟩ => ?_
  subst e
  refine tX_then k hr q fun x T v w1 h1 g1 k1 hx => ?_
  cases h1
  exact q σ w1 g1 k1
theorem jz_if (hc : PT X c (tXT (zx X cl) W ct)) (ha : PSs X body (tSX (zx X cl) W A)) (hb : PSs X orelse (tSX (zx X cl) W B)) : PS X (.If c body orelse pos) (tSX (zx X cl) W (zIf ct A B)) := by
  refine ps_w (ps_if hc ha hb) fun D σ H ⟨env, w, out, e, k, hr, q⟩ => ?_
  subst e
  refine tXT_then k hr q fun x T w1 h1 g1 k1 => ?_
  cases x with
  | true => exact ⟨_, w1, out, rfl, k1, h1, q.mono g1⟩
  | false => exact ⟨_, w1, out, rfl, k1, h1, q.mono g1⟩
end
/-! loops -/
def forZ (A : SX) (s : TD → Ev → Option Ev) : List TD → Ev → Option OutX
  | [], env => some (.nx env)
  | r :: rs, env => (s r env).bind fun e => (A e).bind fun o => match o with
    | .nx e' => forZ A s rs e'
    | .ct e' => forZ A s rs e'
    | .bk e' => some (.nx e')
    | .rt x T => some (.rt x T)
    | .ex c ns xs e => some (.ex c ns xs e)
def zFor (fi : FI) (s : TD → Ev → Option Ev) (A : SX) : SX := fun env => (fi env).bind fun items => forZ A s items env
def whZ (c : FXT) (A : SX) : Nat → Ev → Option OutX
  | 0, _ => none
  | n + 1, env => bS env (c env) fun k T => if k then (A ⟨env.s, T⟩).bind fun o => match o with
    | .nx e' => whZ c A n e'
    | .ct e' => whZ c A n e'
    | .bk e' => some (.nx e')
    | .rt x T => some (.rt x T)
    | .ex c ns xs e => some (.ex c ns xs e) else some (.nx ⟨env.s, T⟩)
def zWh (c : FXT) (A : SX) : SX := fun env => whZ c A fuel env
section
variable {X : Cx} {cl : Str → Option Addr} {W : WX} {a b c e o value i tg iter : Expr} {pos pos' : Pos} {A B : SX} {st : Stmt} {rest body orelse : List Stmt} {ct : FXT} {fi : FI} {is : List Nat} {s : TD → Ev → Option Ev}
theorem jz_for (hp : PassesOwn (model X.prog X.w) X.A X.env X.xe) (hX : XS X) (hi : PI X tg iter (tI Gs (zx X cl) fi)) (hg : PG X tg (tG (zx X cl) is s)) (hb : PSs X body (tSX (zx X cl) W A)) (hs : ∀ x, foldedSetIterable iter X.env x = pure x := by intro _; rfl) :
    PS X (.For tg iter body [] pos) (tSX (zx X cl) W (zFor fi s A)) := by
  refine ps_w (ps_for hp hX.calm hi hg hb hs) fun D σ H ⟨env, w, out, e, k, hr, q⟩ => ?_
  subst e
  obtain ⟨items, h3, h4⟩ := Option.bind_eq_some_iff.mp hr
  refine ⟨env, w, items, rfl, k, h3, fun J w1 g1 wk => ?_⟩
  refine ⟨fun i m σ' H' => ∃ env' w', w'.H = H' ∧ Wok (zx X cl) env' σ' w' ∧ Gs w1 w' ∧ m = items.length - i ∧ i ≤ items.length ∧ forZ A s (items.drop i) env' = some out, ⟨items.length, env, w1, rfl, k.mono g1, Gs.refl g1.wf, rfl, Nat.zero_le _, h4⟩, ?_⟩
  rintro i m σ' H' ⟨env', w', rfl, k', gs, rfl, hi, hf⟩
  by_cases hlt : i < items.length
  · obtain ⟨r, hr⟩ : ∃ r, items[i]? = some r := ⟨items[i], List.getElem?_eq_getElem hlt⟩
    have hd : items.drop i = r :: items.drop (i + 1) := by
      rw [List.drop_eq_getElem_cons hlt]
      rw [List.getElem?_eq_getElem hlt] at hr
      rw [Option.some.inj hr]
    rw [hd] at hf
    obtain ⟨e1, h5, h6⟩ := Option.bind_eq_some_iff.mp hf
    obtain ⟨o, h7, h8⟩ := Option.bind_eq_some_iff.mp h6
    obtain ⟨go, yl⟩ := wk.go i r w' gs hr
    refine .inr ⟨go, fun σ2 H2 => ∃ m', m' < items.length - i ∧ ∃ env' w', w'.H = H2 ∧ Wok (zx X cl) env' σ2 w' ∧ Gs w1 w' ∧ m' = items.length - (i + 1) ∧ i + 1 ≤ items.length ∧ forZ A s (items.drop (i + 1)) env' = some out, fun _ _ z => z, fun x H2 hy => ?_⟩
    obtain ⟨w2, g2, rfl, r2⟩ := yl x H2 hy
    refine ⟨env', w2, r, e1, rfl, k'.mono g2, r2, h5, fun σ3 w3 g3 k3 _ _ => ⟨e1, w3, o, rfl, k3, h7, ?_⟩⟩
    have g23 : Gs w' w3 := (g2.trans g3).gs k'.wf
    cases o with
    | nx e' => exact fun σ4 w4 g4 k4 => ⟨_, by omega, e', w4, rfl, k4, (gs.trans g23).trans g4, rfl, hlt, h8⟩
    | ct e' => exact fun σ4 w4 g4 k4 => ⟨_, by omega, e', w4, rfl, k4, (gs.trans g23).trans g4, rfl, hlt, h8⟩
    | bk e' =>
      cases h8
      exact fun σ4 w4 g4 k4 => q σ4 w4 ((((g1.gs k.wf).trans gs).trans g23).trans g4) k4
    | rt x T =>
      cases h8
      exact fun v w4 g4 r4 t4 => q v w4 ((((g1.gs k.wf).trans gs).trans g23).trans g4) r4 t4
    | ex c ns xs e =>
      cases h8
      exact fun cls d σ4 w4 g4 k4 e4 => q cls d σ4 w4 ((((g1.gs k.wf).trans gs).trans g23).trans g4) k4 e4
  · have e : i = items.length := by omega
    subst e
    refine .inl ⟨wk.stop w' gs, ?_⟩
    rw [List.drop_length] at hf
    cases hf
    exact q σ' w' ((g1.gs k.wf).trans gs) k'
theorem jz_while (hp : PassesOwn (model X.prog X.w) X.A X.env X.xe) (hc : PT X c (tXT (zx X cl) W ct)) (hb : PSs X body (tSX (zx X cl) W A)) : PS X (.While c body [] pos) (tSX (zx X cl) W (zWh ct A)) := by
  refine ps_w (ps_while hp hc hb) fun D σ H ⟨env, w, out, e, k, hr, q⟩ => ?_
  subst e
  refine ⟨fun m σ' H' => ∃ env' w', w'.H = H' ∧ Wok (zx X cl) env' σ' w' ∧ Gs w w' ∧ whZ ct A m env' = some out, ⟨fuel, env, w, rfl, k, Gs.refl k.wf, hr⟩, ?_⟩
  rintro m σ' H' ⟨env', w', rfl, k', gs, hf⟩
  cases m with
  | zero => cases hf
  | succ m =>
    have hf : bS env' (ct env') _ = some out := hf
    refine tXT_then k' hf (q.mono gs) fun x T w1 h1 g1 k1 => ?_
    cases x with
    | false =>
      cases h1
      exact q σ' w1 (gs.trans g1) k1
    | true =>
      have h1 : (A ⟨env'.s, T⟩).bind _ = some out := h1
      obtain ⟨o, h7, h8⟩ := Option.bind_eq_some_iff.mp h1
      refine ⟨fun σ2 H2 => ∃ m', m' < m + 1 ∧ ∃ env' w', w'.H = H2 ∧ Wok (zx X cl) env' σ2 w' ∧ Gs w w' ∧ whZ ct A m' env' = some out, fun _ _ z => z, ⟨_, w1, o, rfl, k1, h7, ?_⟩⟩
      cases o with
      | nx e' => exact fun σ4 w4 g4 k4 => ⟨m, by omega, e', w4, rfl, k4, (gs.trans g1).trans g4, h8⟩
      | ct e' => exact fun σ4 w4 g4 k4 => ⟨m, by omega, e', w4, rfl, k4, (gs.trans g1).trans g4, h8⟩
      | bk e' =>
        cases h8
        exact fun σ4 w4 g4 k4 => q σ4 w4 ((gs.trans g1).trans g4) k4
      | rt x T =>
        cases h8
        exact fun v w4 g4 r4 t4 => q v w4 ((gs.trans g1).trans g4) r4 t4
      | ex c ns xs e =>
        cases h8
        exact fun cls d σ4 w4 g4 k4 e4 => q cls d σ4 w4 ((gs.trans g1).trans g4) k4 e4
end
/-! defs -/
def finX (o : OutX) : Option (XRes HV) := match o with
  | .rt x T => some (.val x T)
  | .nx e => some (.val (.pu .non) e.t)
  | .ex c ns xs e => some (.exc c ns xs e.t)
  | _ => none
section
variable {P : Program} {w : World} {K : PySem.W.Frag} {mg : Str → Option Value} {base : Heap} {cl : Str → Option Addr}
/-- a def that may raise, where nothing is handled: what leaves it has no context -/
theorem okXN {x qual : Str} {st : Stmt} {f : Addr} {fd : FuncData} {N ps : List Str} {k : Nat} {sp : Sp} (F : Fun K x qual st f fd) (S : FnScope N ps (defScope st)) (hlen : ∀ vs H Q E, sp vs H Q E → vs.length = ps.length)
    (body : ∀ (cdv : Value) (A : Around) (outer : List Env) (s : Shared) (H : Hp) (vs : List V) (Q : VK) (E : XK), Room k (A.deeper (PyProof.Rows.envOfC qual (defScope st) s.heap.objs.size f cdv)) → sp vs H Q E →
      ∃ u, PSs (cxOf (L2N.CX P w) P w K mg base N qual (defScope st) f cdv A outer s H E) (defBody st) u ∧ u { nx := fun _ H' => Q .non H', rt := Q } (L2.start N vs) H) : FnOk P w K mg base (L2N.CX P w) (k + 1) f fd ps sp := by
  obtain ⟨c1, c2, c3, c4, c5, c6, c7, c8, c9, rfl, look, code⟩ := F.ex
  exact fn_of look code S hlen fun A o s H vs Q E room holds => body c7 A o s H vs Q E room holds
theorem ok_defX {x qual : Str} {st : Stmt} {f : Addr} {fd : FuncData} {N ps : List Str} {k : Nat} {g : List HV → Tb → Option (XRes HV)} {B : SX} (F : Fun K x qual st f fd) (S : FnScope N ps (defScope st)) (har : ∀ xs T r, g xs T = some r → xs.length = ps.length)
    (hb : ∀ (cdv : Value) (A : Around) (outer : List Env) (s : Shared) (H : Hp) (E : XK), Room k (A.deeper (PyProof.Rows.envOfC qual (defScope st) s.heap.objs.size f cdv)) → XS (cxOf (L2N.CX P w) P w K mg base N qual (defScope st) f cdv A outer s H E) →
      L2N.Takes (cxOf (L2N.CX P w) P w K mg base N qual (defScope st) f cdv A outer s H E) (fun cls d _ H => E cls d H) → PassesOwn (model P w) (cxOf (L2N.CX P w) P w K mg base N qual (defScope st) f cdv A outer s H E).A (cxOf (L2N.CX P w) P w K mg base N qual (defScope st) f cdv A outer s H E).env (cxOf (L2N.CX P w) P w K mg base N qual (defScope st) f cdv A outer s H E).xe →
      PSs (cxOf (L2N.CX P w) P w K mg base N qual (defScope st) f cdv A outer s H E) (defBody st) (tSX ⟨K, cl⟩ (fun cls d _ H => E cls d H) B))
    (hsem : ∀ xs T r, g xs T = some r → (B (env0H N.length xs T)).bind finX = some r) : FnOk P w K mg base (L2N.CX P w) (k + 1) f fd ps (spX ⟨K, cl⟩ g) := by
  refine okXN F S (fun vs H Q E h => ?_) (fun cdv A outer s H vs Q E hr h => ?_)
  · obtain ⟨w0, xs, T, r, _, _, _, h1, h2, _⟩ := h
    rw [h1.length, har _ _ _ h2]
  · obtain ⟨w0, xs, T, r, rfl, hw, ht, h1, h2, q1, q2⟩ := h
    have hX : XS (cxOf (L2N.CX P w) P w K mg base N qual (defScope st) f cdv A outer s w0.H E) := ⟨rfl, S.nd, by have := hr.un; show (A.deeper _).units + 65 < cLine; omega⟩
    refine ⟨_, hb cdv A outer s w0.H E hr hX (L2N.takes_of rfl rfl rfl rfl) (passes_of rfl), ?_⟩
    obtain ⟨out, e1, e2⟩ := Option.bind_eq_some_iff.mp (hsem xs T _ h2)
    have hle : xs.length ≤ N.length := by
      have := congrArg List.length S.pre
      rw [List.length_take] at this
      have := har _ _ _ h2
      omega
    refine ⟨env0H N.length xs T, w0, out, rfl, wok_startH hw ht h1 hle, e1, ?_⟩
    unfold finX at e2
    split at e2
    · cases e2
      exact fun v w' gs hv tb => q1 _ _ rfl v w' gs hv tb
    · cases e2
      exact fun σ' w' gs k' => q1 _ _ rfl .non w' gs .non k'.tb
    · cases e2
      exact fun cls d σ' w' gs k' ex => q2 _ _ _ _ rfl cls d w' gs k'.tb ex
    · cases e2
end
end Vf
namespace Vf
open PySem L2
/-! ### methods, new instances; both may raise -/
def xMeth (c m : Str) (gg : List HV → Tb → Option (XRes HV)) (o : FX) (fa : FXA) : FX := fun env => bX (o env) fun x T1 => (insOf T1 x).bind fun q => if q.1 = c ∧ m ∉ q.2 then bX (fa ⟨env.s, T1⟩) fun xs T2 => gg (x :: xs) T2 else none
/-- behind __init__: the new object -/
def mkR (n : Nat) : XRes HV → Option (XRes HV)
  | .val (.pu .non) T => some (.val (.ob n) T)
  | .val _ _ => none
  | .exc c ns xs T => some (.exc c ns xs T)
def mkX (c : Str) (gi : List HV → Tb → Option (XRes HV)) (xs : List HV) (T : Tb) : Option (XRes HV) := (gi (.ob T.length :: xs) (T ++ [some (.ins c [] [])])).bind (mkR T.length)
def xMake (c : Str) (gi : List HV → Tb → Option (XRes HV)) (fa : FXA) : FX := fun env => bX (fa env) (mkX c gi)
end Vf
namespace Vf
open PySem L2
/-! ### walks over what stands in the table -/
def srcM (T : Tb) : HV → Option Mob
  | .pu (.lst ds) => some (.lst (ds.map .pu))
  | .pu (.scr ds) => some (.lst (ds.map .pu))
  | .pu (.tup ds) => some (.tup (ds.map .pu))
  | .pu _ => none
  | .ob k => match T[k]? with
    | some (some (.lst xs)) => some (.lst xs)
    | some (some (.tup xs)) => some (.tup xs)
    | _ => none
def mobI : Mob → List HV
  | .lst xs => xs | .tup xs => xs | .ins _ _ xs => xs | .dic _ xs => xs | .cod _ => []
theorem src_lst {Z : Zc} {T : Tb} {w : Wd} (hw : Wf w) (t : TbOk Z T w) {v : V} {x : HV} {xs : List HV} (hx : HvOk Z w v x) (h : srcM T x = some (.lst xs)) : ∃ p vs, v = .ref p ∧ SqL Z.K w.H p vs ∧ HvsOk Z w vs xs := by
  cases x with
  | pu d =>
    unfold srcM at h
    split at h
    · rename_i e
      cases e
      cases h
      obtain ⟨p, vs, e1, e2, e3⟩ := RV.lst (t := .N) hw hx
      exact ⟨p, vs, e1, SqL.of e2, hvs_pu e3⟩
    · rename_i e
      cases e
      cases h
      obtain ⟨p, vs, e1, e2, e3⟩ := RV.scr (t := .N) hw hx
      exact ⟨p, vs, e1, e2, hvs_pu e3⟩
    · cases h
    · cases h
    · rename_i e
      cases e
  | ob k =>
    unfold srcM at h
    dsimp only at h
    split at h
    · rename_i ys ej
      cases h
      obtain ⟨a, vs, e1, e2, e3, e4, e5⟩ := ob_lst t hx ej
      exact ⟨a, vs, e1, SqL.of e4, e5⟩
    · cases h
    · cases h
theorem src_tup {Z : Zc} {T : Tb} {w : Wd} (hw : Wf w) (t : TbOk Z T w) {v : V} {x : HV} {xs : List HV} (hx : HvOk Z w v x) (h : srcM T x = some (.tup xs)) : ∃ p vs, v = .ref p ∧ SqT Z.K w.H p vs ∧ HvsOk Z w vs xs := by
  cases x with
  | pu d =>
    unfold srcM at h
    split at h
    · cases h
    · cases h
    · rename_i e
      cases e
      cases h
      obtain ⟨p, vs, e1, e2, e3⟩ := RV.tup (t := .N) hw hx
      exact ⟨p, vs, e1, e2, hvs_pu e3⟩
    · cases h
    · rename_i e
      cases e
  | ob k =>
    unfold srcM at h
    dsimp only at h
    split at h
    · cases h
    · rename_i ys ej
      cases h
      obtain ⟨a, rfl, h1⟩ := hx
      obtain ⟨a', h2, h3, vs, h4, h5⟩ := t.at_ k _ ej
      rw [h1] at h2
      cases h2
      exact ⟨a, vs, rfl, .of h4, h5⟩
    · cases h
theorem srcM_kind {T : Tb} {x : HV} {M : Mob} (h : srcM T x = some M) : (∃ xs, M = .lst xs) ∨ ∃ xs, M = .tup xs := by
  unfold srcM at h
  split at h
  · cases h; exact .inl ⟨_, rfl⟩
  · cases h; exact .inl ⟨_, rfl⟩
  · cases h; exact .inr ⟨_, rfl⟩
  · cases h
  · split at h
    · cases h; exact .inl ⟨_, rfl⟩
    · cases h; exact .inr ⟨_, rfl⟩
    · cases h
section
variable {X : Cx} {cl : Str → Option Addr} {W : WX} {a b c e o tg : Expr} {es : List Expr} {f g h : FX} {pos : Pos} {is js : List Nat} {s : HV → Ev → Option Ev} {l : List HV → Ev → Option Ev}
/-! targets -/
def setXCons (s : HV → Ev → Option Ev) (l : List HV → Ev → Option Ev) : List HV → Ev → Option Ev := fun xs env => match xs with | x :: xs => (s x env).bind fun e => l xs e | _ => none
def setXTup (n : Nat) (l : List HV → Ev → Option Ev) : HV → Ev → Option Ev := fun x env => (srcM env.t x).bind fun M => if (mobI M).length = n then l (mobI M) env else none
end
noncomputable def forH (A : SX) (s : HV → Ev → Option Ev) (x : HV) (M : Mob) : List HV → Ev → Option OutX
  | [], env => cif (srcM env.t x = some M) (some (.nx env)) none
  | y :: ys, env => cif (srcM env.t x = some M) ((s y env).bind fun e => (A e).bind fun o => match o with
    | .nx e' => forH A s x M ys e'
    | .ct e' => forH A s x M ys e'
    | .bk e' => some (.nx e')
    | .rt x T => some (.rt x T)
    | .ex c ns xs e => some (.ex c ns xs e)) none
noncomputable def forHK (A : SX) (s : HV → Ev → Option Ev) (sl : List Sl) (x : HV) (T : Tb) : Option OutX := (srcM T x).bind fun M => forH A s x M (mobI M) ⟨sl, T⟩
noncomputable def zForH (f : FX) (s : HV → Ev → Option Ev) (A : SX) : SX := fun env => bS env (f env) (forHK A s env.s)
theorem cif_get {α : Type} {p : Prop} {a : Option α} {b : α} (h : cif p a none = some b) : p ∧ a = some b := by
  unfold cif at h
  split at h
  · exact ⟨by assumption, h⟩
  · cases h
end Vf
namespace Vf
open PySem L2
/-! ### comprehensions whose items may be objects of the table -/
def W0 : WX := fun _ _ _ _ => False
def noOwn (s : List Sl) : Prop := ∀ ds, Sl.own ds ∉ s
def ownFree : List Sl → Bool
  | [] => true
  | .own _ :: _ => false
  | _ :: r => ownFree r
theorem ownFree_no : ∀ {s : List Sl}, ownFree s = true → noOwn s
  | [], _ => fun ds h => by cases h
  | .un :: r, h => fun ds z => (List.mem_cons.mp z).elim (fun e => nomatch e) (ownFree_no (s := r) h ds)
  | .val _ _ :: r, h => fun ds z => (List.mem_cons.mp z).elim (fun e => nomatch e) (ownFree_no (s := r) h ds)
  | .han _ :: r, h => fun ds z => (List.mem_cons.mp z).elim (fun e => nomatch e) (ownFree_no (s := r) h ds)
  | .exo .. :: r, h => fun ds z => (List.mem_cons.mp z).elim (fun e => nomatch e) (ownFree_no (s := r) h ds)
  | .clo .. :: r, h => fun ds z => (List.mem_cons.mp z).elim (fun e => nomatch e) (ownFree_no (s := r) h ds)
  | .own _ :: r, h => nomatch h
theorem wok_slots {Z : Zc} {s : List Sl} {T T' : Tb} {σ : L2.St} {w w' : Wd} (k : Wok Z ⟨s, T⟩ σ w) (no : noOwn s) (g : Gs w w') (tb : TbOk Z T' w') : Wok Z ⟨s, T'⟩ σ w' :=
  ⟨g.wf, k.len, fun i sl e => by
    obtain ⟨o, h1, h2⟩ := k.sl i sl e
    refine ⟨o, h1, ?_⟩
    cases sl with
    | un => exact trivial
    | val t d =>
      obtain ⟨v, e1, e2⟩ := h2
      exact ⟨v, e1, e2.imp (fun ⟨x, y⟩ => ⟨x, Rp.mono g.n y⟩) fun ⟨x, y⟩ => ⟨x, Rp.mono g.b y⟩⟩
    | han n =>
      obtain ⟨a, e1, e2⟩ := h2
      refine ⟨a, e1, ?_⟩
      obtain ⟨l, hl⟩ := g.m
      rw [← hl, List.getElem?_append_left (List.getElem?_eq_some_iff.mp e2).1]
      exact e2
    | exo _ _ _ _ _ _ =>
      obtain ⟨us, e1, e2, e3, e4, e5⟩ := h2
      exact ⟨us, e1, e2, g.b _ _ e3, e4, RpL.mono g.n e5⟩
    | clo f F u x => exact ⟨h2.1, g.n _ _ h2.2.1, g.n _ _ h2.2.2.1, HvsOk.mono (w := w) (w' := w') g.n g.m h2.2.2.2⟩
    | own ds => exact (no ds (List.mem_of_getElem? e)).elim,
  fun i j ds es p hne e1 e2 => (no ds (List.mem_of_getElem? e1)).elim, tb⟩
/-- D is lent: nobody changes it meanwhile -/
def lend (w : Wd) (D : Addr) (o : HO) : Wd := ⟨w.N, upd w.B D o, w.H, w.m⟩
theorem lend_wf {w : Wd} (hw : Wf w) {D : Addr} {o : HO} (h : w.H D = some o) (hb : w.B D = none) : Wf (lend w D o) := by
  refine ⟨?_, fun a u e => ?_⟩
  · exact same_up1 hw.nb (hw.nb.free hb)
  · have e : upd w.B D o a = some u := e
    by_cases q : a = D
    · subst q
      rw [upd_same] at e
      show w.H _ = _
      rw [h]
      exact e
    · rw [upd_ne q] at e
      exact hw.bh _ _ e
theorem lend_gs {w : Wd} (hw : Wf w) {D : Addr} {o : HO} (h : w.H D = some o) (hb : w.B D = none) : Gs w (lend w D o) :=
  ⟨lend_wf hw h hb, .refl _, same_up hb, fun _ q => .inl q, List.prefix_refl _, fun _ q => .inl q⟩
theorem lend_tb {Z : Zc} {T : Tb} {w : Wd} (t : TbOk Z T w) {D : Addr} {o : HO} (hm : D ∉ w.m) : TbOk Z T (lend w D o) :=
  ⟨t.len, t.nd, t.hh, fun n M e => by
    obtain ⟨a, h1, h2, h3⟩ := t.at_ n M e
    refine ⟨a, h1, ?_, MobOk.mono (w := w) (w' := lend w D o) (.refl _) (List.prefix_refl _) (fun _ q => q) h3⟩
    show upd w.B D o a = none
    rw [upd_ne (fun q => hm (by rw [← q]; exact List.mem_of_getElem? h1))]
    exact h2⟩
/-- D is given back, with other items -/
def back (w4 : Wd) (D : Addr) (o : HO) : Wd := ⟨w4.N, fun x => if x = D then none else w4.B x, upd w4.H D o, w4.m⟩
theorem lend_back {Z : Zc} {T : Tb} {w w4 : Wd} {D : Addr} {o o' : HO} (hw : Wf w) (h : w.H D = some o) (hb : w.B D = none) (hm : D ∉ w.m) (g : Gs (lend w D o) w4) (t : TbOk Z T w4) :
    w4.H D = some o ∧ D ∉ w4.m ∧ (back w4 D o').B D = none ∧ Gs w (back w4 D o') ∧ TbOk Z T (back w4 D o') := by
  have hbl : (lend w D o).B D = some o := upd_same
  have hb4 : w4.B D = some o := g.b _ _ hbl
  have hm4 : D ∉ w4.m := fun z => (g.mf D z).elim hm fun q => by rw [hbl] at q; cases q
  have hn4 : w4.N D = none := by
    cases q : w4.N D with
    | none => rfl
    | some u =>
      rcases g.fn D (by rw [q]; exact fun z => nomatch z) with z | z
      · exact (z (hw.nb.free hb)).elim
      · rw [hbl] at z; cases z
  have nb : Same w4.N (back w4 D o').B := fun a u e => by
    have : a ≠ D := fun q => by subst q; rw [hn4] at e; cases e
    show (if a = D then none else w4.B a) = _
    rw [if_neg this]
    exact g.wf.nb _ _ e
  have bh : Same (back w4 D o').B (back w4 D o').H := fun a u e => by
    have e : (if a = D then none else w4.B a) = some u := e
    by_cases q : a = D
    · rw [if_pos q] at e; cases e
    · rw [if_neg q] at e
      show upd w4.H D o' a = _
      rw [upd_ne q]
      exact g.wf.bh _ _ e
  refine ⟨g.wf.bh _ _ hb4, hm4, if_pos rfl, ⟨⟨nb, bh⟩, g.n, fun a u e => ?_, fun a q => ?_, g.m, fun a q => ?_⟩, ⟨t.len, t.nd, fun a ha => ?_, fun n M e => ?_⟩⟩
  · have : a ≠ D := fun q => by subst q; rw [hb] at e; cases e
    show (if a = D then none else w4.B a) = _
    rw [if_neg this]
    refine g.b _ _ ?_
    show upd w.B D o a = _
    rw [upd_ne this]
    exact e
  · refine (g.fn a q).imp id fun z => ?_
    have z : upd w.B D o a = none := z
    by_cases q : a = D
    · subst q; exact hb
    · rw [upd_ne q] at z; exact z
  · refine (g.mf a q).imp id fun z => ?_
    have z : upd w.B D o a = none := z
    by_cases q : a = D
    · subst q; exact hb
    · rw [upd_ne q] at z; exact z
  · show upd w4.H D o' a ≠ none
    rw [upd_ne (fun q => hm4 (by rw [← q]; exact ha))]
    exact t.hh a ha
  · obtain ⟨a, h1, h2, h3⟩ := t.at_ n M e
    have hne : a ≠ D := fun q => hm4 (by rw [← q]; exact List.mem_of_getElem? h1)
    refine ⟨a, h1, ?_, MobOk.mono (w := w4) (w' := back w4 D o') (.refl _) (List.prefix_refl _) (fun u q => ?_) h3⟩
    · show (if a = D then none else w4.B a) = none
      rw [if_neg hne]
      exact h2
    · show upd w4.H D o' a = _
      rw [upd_ne hne]
      exact q
/-- a list that is nobody's yet enters the table -/
theorem enter {Z : Zc} {s : List Sl} {T : Tb} {σ : L2.St} {w : Wd} (k : Wok Z ⟨s, T⟩ σ w) (no : noOwn s) {D : Addr} {acc : List V} {hacc : List HV} (hA : w.H D = some (.lst acc)) (hB : w.B D = none) (hm : D ∉ w.m) (hR : HvsOk Z w acc hacc) :
    Wok Z ⟨s, T ++ [some (.lst hacc)]⟩ σ ⟨w.N, w.B, w.H, w.m ++ [D]⟩ ∧ Gs w ⟨w.N, w.B, w.H, w.m ++ [D]⟩ := by
  have px : w.m <+: w.m ++ [D] := List.prefix_append _ _
  have wf : Wf ⟨w.N, w.B, w.H, w.m ++ [D]⟩ := ⟨k.wf.nb, k.wf.bh⟩
  have g : Gs w ⟨w.N, w.B, w.H, w.m ++ [D]⟩ := ⟨wf, .refl _, .refl _, fun _ q => .inl q, px, fun a q => (List.mem_append.mp q).imp id fun z => by rw [List.mem_singleton.mp z]; exact hB⟩
  refine ⟨wok_slots k no g ⟨by rw [List.length_append]; show T.length + 1 = (w.m ++ [D]).length; rw [List.length_append, k.tb.len]; rfl, ?_, fun a ha => ?_, fun n M e => ?_⟩, g⟩
  · show (w.m ++ [D]).Nodup
    rw [List.nodup_append]
    exact ⟨k.tb.nd, by simp, fun x hx y hy e => by rw [List.mem_singleton.mp hy] at e; subst e; exact hm hx⟩
  · rcases List.mem_append.mp ha with z | z
    · exact k.tb.hh a z
    · rw [List.mem_singleton.mp z]
      show w.H D ≠ none
      rw [hA]
      exact fun z => nomatch z
  · have hlen : T.length = w.m.length := k.tb.len
    by_cases hj : n < T.length
    · rw [List.getElem?_append_left hj] at e
      obtain ⟨a, h1, h2, h3⟩ := k.tb.at_ n M e
      exact ⟨a, by show (w.m ++ [D])[n]? = _; rw [List.getElem?_append_left (List.getElem?_eq_some_iff.mp h1).1]; exact h1, h2, MobOk.mono (w := w) (w' := ⟨w.N, w.B, w.H, w.m ++ [D]⟩) (.refl _) px (fun _ q => q) h3⟩
    · rw [List.getElem?_append_right (by omega)] at e
      have h0 : n - T.length = 0 := by
        have := (List.getElem?_eq_some_iff.mp e).1
        simp at this
        omega
      rw [h0] at e
      cases e
      exact ⟨D, by show (w.m ++ [D])[n]? = _; rw [List.getElem?_append_right (by omega), ← hlen, h0]; rfl, hB, acc, hA, HvsOk.mono (w := w) (w' := ⟨w.N, w.B, w.H, w.m ++ [D]⟩) (.refl _) px hR⟩
def valX {α : Type} : Option (XRes α) → Option (α × Tb)
  | some (.val x T) => some (x, T)
  | _ => none
theorem valX_some {α : Type} {o : Option (XRes α)} {x : α} {T : Tb} (h : valX o = some (x, T)) : o = some (.val x T) := by
  unfold valX at h
  split at h
  · cases h; rfl
  · cases h
noncomputable def lcX (ct : FXT) (fe : FX) (s : HV → Ev → Option Ev) (sl : List Sl) (x : HV) (M : Mob) : List HV → Tb → Option (List HV × Tb)
  | [], T => cif (srcM T x = some M) (some ([], T)) none
  | y :: ys, T => cif (srcM T x = some M) ((s y ⟨sl, T⟩).bind fun e => (valX (ct e)).bind fun k => if k.1 then (valX (fe ⟨e.s, k.2⟩)).bind fun v => (lcX ct fe s sl x M ys v.2).map fun r => (v.1 :: r.1, r.2) else lcX ct fe s sl x M ys k.2) none
noncomputable def lcXK (ct : FXT) (fe : FX) (s : HV → Ev → Option Ev) (sl : List Sl) (x : HV) (T : Tb) : Option (XRes HV) := (srcM T x).bind fun M => if (mobI M).length ≤ lim then (lcX ct fe s sl x M (mobI M) T).map fun r => .val (.ob r.2.length) (r.2 ++ [some (.lst r.1)]) else none
/-- [fe for s in f if ct]: a new object of the table -/
noncomputable def xLc (f : FX) (s : HV → Ev → Option Ev) (ct : FXT) (fe : FX) (vs : List Nat) : FX := fun env => if ownFree env.s then bX (f env) fun x T => lcXK ct fe s (wipeE ⟨env.s, T⟩ vs).s x T else none
theorem wipeE_t (env : Ev) : ∀ vs, (wipeE env vs).t = env.t
  | [] => rfl
  | v :: vs => wipeE_t env vs
theorem own_wipe {s : List Sl} {T : Tb} (h : noOwn s) : ∀ vs, noOwn (wipeE ⟨s, T⟩ vs).s
  | [] => h
  | v :: vs => fun ds z => by
    have ih := own_wipe (T := T) h vs
    have z : Sl.own ds ∈ ((wipeE ⟨s, T⟩ vs).s).set v .un := z
    rcases List.mem_or_eq_of_mem_set z with q | q
    · exact ih ds q
    · cases q
section
variable {X : Cx} {cl : Str → Option Addr} {W : WX} {a b c e o tg iter elt : Expr} {es ifs : List Expr} {f g h : FX} {pos : Pos} {is : List Nat} {s : HV → Ev → Option Ev} {ct : FXT} {scope : Scope}
theorem jxts_nil {X : Cx} : PTs X [] (tXT (zx X cl) W0 (fun env => some (.val true env.t))) := by
  refine ⟨fun pins s σ H Q I ⟨env, w, r, e, k, hr, q⟩ => pts_nil.run pins s σ H Q I ?_⟩
  subst e
  cases hr
  exact q w (Gs.refl k.wf) k
end
end Vf
namespace Vf
open PySem L2
/-! ### isinstance, list(..), tuple(..), len, keywords -/
def isi2D (d : D) (T1 T2 : String) : Option Bool := (isiD d T1).bind fun a => (isiD d T2).map fun b => a || b
def sIsi2 (T1 T2 : String) (f : FE) : FE := fun env => (f env).bind fun x => (isi2D x.2 T1 T2).map fun k => (.N, .bl k)
def isiX (T : String) (x : HV) (Tb0 : Tb) : Option (XRes HV) := (tdX Tb0 x).bind fun r => (isiD r.2 T).map fun k => .val (.pu (.bl k)) Tb0
def xIsi (T : String) (f : FX) : FX := fun env => bX (f env) (isiX T)
theorem isiD_kit {K : PySem.W.Frag} {d : D} {T : String} {b : Bool} (h : isiD d T = some b) : (plainT d = true) ∧ PySem.W.kitOne K (.type (tyOf d)) (.type T) = some b := by
  unfold isiD at h
  split at h
  · cases h
  · cases h
  · rename_i hne hne2
    exact ⟨by cases d <;> first | rfl | exact absurd rfl (hne _ _ _) | exact absurd rfl (hne2 _ _ _), kit_ty h⟩
def listK (x : HV) (T : Tb) : Option (XRes HV) := (srcM T x).map fun M => .val (.ob T.length) (T ++ [some (.lst (mobI M))])
/-- list(e): a new object -/
def xList (f : FX) : FX := fun env => bX (f env) listK
def tupOfK (x : HV) (T : Tb) : Option (XRes HV) := (srcM T x).bind fun M => match M with
  | .lst xs => (match pures xs with
    | some ds => some (.val (.pu (.tup ds)) T)
    | none => some (.val (.ob T.length) (T ++ [some (.tup xs)])))
  | .tup xs => some (.val x T)
  | _ => none
def xTupOf (f : FX) : FX := fun env => bX (f env) tupOfK
def lenK (x : HV) (T : Tb) : Option (XRes HV) := match x with
  | .pu d => (lenB [(.N, d)]).bind fun r => resX r T
  | .ob k => match T[k]? with
    | some (some (.dic ks _)) => some (.val (.pu (.int ks.length)) T)
    | _ => (srcM T (.ob k)).map fun M => .val (.pu (.int (mobI M).length)) T
def xLen (f : FX) : FX := fun env => bX (f env) lenK
section
variable {X : Cx} {cl : Str → Option Addr} {W : WX} {a b c e o : Expr} {es : List Expr} {f g h : FX} {fa : FXA} {pos apos : Pos} {kws : List Keyword} {gg : List HV → Tb → Option (XRes HV)} {ps ks : List Str} {k j : Nat} {π : List Nat}
theorem je_isi2 {f : FE} {T1 T2 : String} {t1 t2 : Str} {p q1 q2 qt : Pos} {x1 : Nat} (ha : PE X a (tE (zx X cl) f)) (mi : X.mg "isinstance" = none) (m1 : X.mg t1 = none) (m2 : X.mg t2 = none) (hT1 : bootBuiltins t1 = some (.type T1)) (hT2 : bootBuiltins t2 = some (.type T2)) (hgi : Gl X "isinstance" := by rfl) (hg1 : Gl X t1 := by rfl) (hg2 : Gl X t2 := by rfl)
    (hn1 : t1 ≠ "__name__" := by decide) (hd1 : (t1 == ("__debug__" : Str)) = false := by decide) (hn2 : t2 ≠ "__name__" := by decide) (hd2 : (t2 == ("__debug__" : Str)) = false := by decide)
    (he : starEach [a, .Tuple [.Name t1 q1, .Name t2 q2] x1 qt] X.env = (false, eval a X.env) :: starEach [.Tuple [.Name t1 q1, .Name t2 q2] x1 qt] X.env := by rfl)
    (hpl : (backTo pos (starEach [.Tuple [.Name t1 q1, .Name t2 q2] x1 qt] X.env)).any (·.1) = false := by rfl) (he2 : starEach [.Tuple [.Name t1 q1, .Name t2 q2] x1 qt] X.env = (false, eval (.Tuple [.Name t1 q1, .Name t2 q2] x1 qt) X.env) :: starEach [] X.env := by rfl)
    (he3 : starEach [.Name t1 q1, .Name t2 q2] X.env = (false, eval (.Name t1 q1) X.env) :: starEach [.Name t2 q2] X.env := by rfl) (he4 : starEach [.Name t2 q2] X.env = (false, eval (.Name t2 q2) X.env) :: starEach [] X.env := by rfl) :
    PE X (.Call (.Name "isinstance" p) [a, .Tuple [.Name t1 q1, .Name t2 q2] x1 qt] [] pos) (tE (zx X cl) (sIsi2 T1 T2 f)) := by
  refine pe_w (pe_callB call_isiT hgi mi PyProof.Rows.boot_isinstance (pa_cons ha (pa_cons (pe_tup (pa_cons (pe_bltn (v := .ty T1) hg1 m1 hT1 rfl hn1 hd1) (pa_cons (pe_bltn (v := .ty T2) hg2 m2 hT2 rfl hn2 hd2) pa_nil he4) he3)) pa_nil he2) he) (by decide) (by decide) he hpl) fun σ H Q ⟨env, w, r, e, k, hr, q⟩ => ?_
  subst e
  obtain ⟨⟨t, d⟩, h1, h2⟩ := Option.bind_eq_some_iff.mp hr
  obtain ⟨b, h3, rfl⟩ := Option.map_eq_some_iff.mp h2
  obtain ⟨b1, h4, h5⟩ := Option.bind_eq_some_iff.mp h3
  obtain ⟨b2, h6, rfl⟩ := Option.map_eq_some_iff.mp h5
  dsimp only at h4 h6
  refine ⟨env, w, _, rfl, k, h1, fun v w1 g1 r1 => ⟨by show 2 ≤ sizeLine; decide, fun p hp => ?_⟩⟩
  obtain ⟨hd, k1⟩ := isiD_kit (K := X.K) h4
  obtain ⟨_, k2⟩ := isiD_kit (K := X.K) h6
  have gp := Gr.put g1.wf (t := .T) (o := .tup [.ty T1, .ty T2]) hp
  refine ⟨v, p, [.ty T1, .ty T2], .type (tyOf d), [.type T1, .type T2], b1 || b2, rfl, upd_same, .cons (.ty T1) (.cons (.ty T2) .nil), ?_, ?_, ?_⟩
  · exact tyX_of (Rp.mono gp.h (r1.top g1.wf)) hd
  · refine kitAny_cons k1 (fun e => ?_) (fun e => by rw [e]; rfl)
    subst e
    exact kitAny_cons k2 (fun e => by subst e; rfl) (fun e => by rw [e]; rfl)
  · have := q (.bl (b1 || b2)) (w1.put .T p (.tup [.ty T1, .ty T2])) (g1.trans gp) (nN (.bl _) rfl)
    rw [put_H] at this
    exact this
theorem jx_list {p : Pos} (hm : X.mg "list" = none) (ha : PE X a (tX (zx X cl) W f)) (hv : bootBuiltins "list" = some (.type "list")) (hg : Gl X "list" := by rfl) (he : starEach [a] X.env = (false, eval a X.env) :: starEach [] X.env := by rfl) (hpl : (backTo pos (starEach [] X.env)).any (·.1) = false := by rfl) :
    PE X (.Call (.Name "list" p) [a] [] pos) (tX (zx X cl) W (xList f)) := by
  refine pe_w (pe_callTy call_list_of hg hm hv (pa_cons ha pa_nil he) (by decide) (by decide) he hpl) fun σ H Q ⟨env, w, r, e, k, h, q⟩ => ?_
  subst e
  refine tX_bind k h q.late fun x T1 v w1 h1 g1 k1 hx => ?_
  obtain ⟨M, hM, rfl⟩ := Option.map_eq_some_iff.mp h1
  rcases srcM_kind hM with ⟨xs, rfl⟩ | ⟨xs, rfl⟩
  · obtain ⟨pa, vs, rfl, h2, h3⟩ := src_lst k1.wf k1.tb hx hM
    refine ⟨pa, vs, rfl, .inl h2, fun np hnp => ?_⟩
    obtain ⟨w2, e2, g2, k2, hx2⟩ := new_ok k1 (o := .lst vs) (M := .lst xs) hnp ⟨vs, upd_same, HvsOk.mono (w := w1) (w' := ⟨w1.N, w1.B, upd w1.H np (.lst vs), w1.m⟩) (.refl _) (List.prefix_refl _) h3⟩
    rw [← e2]
    exact q _ w2 (g1.trans g2) k2 hx2
  · obtain ⟨pa, vs, rfl, h2, h3⟩ := src_tup k1.wf k1.tb hx hM
    refine ⟨pa, vs, rfl, .inr h2, fun np hnp => ?_⟩
    obtain ⟨w2, e2, g2, k2, hx2⟩ := new_ok k1 (o := .lst vs) (M := .lst xs) hnp ⟨vs, upd_same, HvsOk.mono (w := w1) (w' := ⟨w1.N, w1.B, upd w1.H np (.lst vs), w1.m⟩) (.refl _) (List.prefix_refl _) h3⟩
    rw [← e2]
    exact q _ w2 (g1.trans g2) k2 hx2
theorem jx_tupOf {p : Pos} (hm : X.mg "tuple" = none) (ha : PE X a (tX (zx X cl) W f)) (hv : bootBuiltins "tuple" = some (.type "tuple")) (hg : Gl X "tuple" := by rfl) (he : starEach [a] X.env = (false, eval a X.env) :: starEach [] X.env := by rfl) (hpl : (backTo pos (starEach [] X.env)).any (·.1) = false := by rfl) :
    PE X (.Call (.Name "tuple" p) [a] [] pos) (tX (zx X cl) W (xTupOf f)) := by
  refine pe_w (pe_callTy call_tuple_of hg hm hv (pa_cons ha pa_nil he) (by decide) (by decide) he hpl) fun σ H Q ⟨env, w, r, e, k, h, q⟩ => ?_
  subst e
  refine tX_bind k h q.late fun x T1 v w1 h1 g1 k1 hx => ?_
  obtain ⟨M, hM, h1⟩ := Option.bind_eq_some_iff.mp h1
  rcases srcM_kind hM with ⟨xs, rfl⟩ | ⟨xs, rfl⟩
  · obtain ⟨pa, vs, rfl, h2, h3⟩ := src_lst k1.wf k1.tb hx hM
    refine ⟨pa, vs, rfl, .inl ⟨h2, fun np hnp => ?_⟩⟩
    dsimp only at h1
    split at h1
    · rename_i ds hd
      cases h1
      have := q (.ref np) (w1.put .N np (.tup vs)) (g1.trans ((Gr.put k1.wf hnp).gs k1.wf)) (k1.mono (Gr.put k1.wf hnp)) (new_tup (t := .N) k1.wf (by decide) hnp (pures_rp h3 hd))
      rw [put_H] at this
      exact this
    · cases h1
      obtain ⟨w2, e2, g2, k2, hx2⟩ := new_ok k1 (o := .tup vs) (M := .tup xs) hnp ⟨vs, upd_same, HvsOk.mono (w := w1) (w' := ⟨w1.N, w1.B, upd w1.H np (.tup vs), w1.m⟩) (.refl _) (List.prefix_refl _) h3⟩
      rw [← e2]
      exact q _ w2 (g1.trans g2) k2 hx2
  · obtain ⟨pa, vs, rfl, h2, h3⟩ := src_tup k1.wf k1.tb hx hM
    cases h1
    exact ⟨pa, vs, rfl, .inr ⟨h2, q _ w1 g1 k1 hx⟩⟩
def rLenX (Z : Zc) : List V → Hp → VK → Prop := fun xs H Q => rC Z lenB xs H Q ∨ (∃ a kvs, xs = [V.ref a] ∧ H a = some (.dK kvs) ∧ Q (.int kvs.length) H) ∨ ∃ p vs, xs = [.ref p] ∧ (SqL Z.K H p vs ∨ SqT Z.K H p vs) ∧ Q (.int vs.length) H
theorem cr_lenX : CallR X (.builtin "len") (rLenX (zx X cl)) := by
  rintro pins s σ H xs us Q I r (h | h | ⟨p, vs, rfl, h, q⟩)
  · exact cr_len (cl := cl) pins s σ H xs us Q I r h
  · exact call_lenD pins s σ H xs us Q I r h
  · rcases h with h | h
    · exact call_len pins s σ H _ us Q I r ⟨_, _, rfl, .inl ⟨vs, h, rfl⟩, q⟩
    · exact call_len pins s σ H _ us Q I r ⟨_, _, rfl, .inr ⟨vs, h, rfl⟩, q⟩
theorem jx_len {p : Pos} (hm : X.mg "len" = none) (ha : PE X a (tX (zx X cl) W f)) (hg : Gl X "len" := by rfl) (he : starEach [a] X.env = (false, eval a X.env) :: starEach [] X.env := by rfl) (hpl : (backTo pos (starEach [] X.env)).any (·.1) = false := by rfl) :
    PE X (.Call (.Name "len" p) [a] [] pos) (tX (zx X cl) W (xLen f)) := by
  refine pe_w (pe_callB (cr_lenX (cl := cl)) hg hm PySem.boot_len (pa_cons ha pa_nil he) (by decide) (by decide) he hpl) fun σ H Q ⟨env, w, r, e, k, h, q⟩ => ?_
  subst e
  refine tX_bind k h q.late fun x T1 v w1 h1 g1 k1 hx => ?_
  show rLenX (zx X cl) [v] w1.H Q
  cases x with
  | pu d =>
    obtain ⟨z, h2, h3⟩ := Option.bind_eq_some_iff.mp h1
    exact .inl ⟨w1, [(.N, d)], z, rfl, k1.wf, ⟨hx, trivial⟩, h2, fun v' w2 g2 rv => resX_ok h3 q g1 k1 g2 rv⟩
  | ob n =>
    unfold lenK at h1
    dsimp only at h1
    split at h1
    · rename_i ks xs ej
      cases h1
      obtain ⟨p, rfl, h2⟩ := hx
      obtain ⟨p', h4, h5, vs, h6, h7, h8⟩ := k1.tb.at_ _ _ ej
      rw [h2] at h4
      cases h4
      exact .inr (.inl ⟨p, _, rfl, h6, by rw [List.length_zip, h7, Nat.min_self]; exact q _ w1 g1 k1 (.int _)⟩)
    obtain ⟨M, hM, rfl⟩ := Option.map_eq_some_iff.mp h1
    rcases srcM_kind hM with ⟨xs, rfl⟩ | ⟨xs, rfl⟩
    · obtain ⟨pa, vs, rfl, h2, h3⟩ := src_lst k1.wf k1.tb hx hM
      refine .inr (.inr ⟨pa, vs, rfl, .inl h2, ?_⟩)
      rw [h3.length]
      exact q _ w1 g1 k1 (.int _)
    · obtain ⟨pa, vs, rfl, h2, h3⟩ := src_tup k1.wf k1.tb hx hM
      refine .inr (.inr ⟨pa, vs, rfl, .inr h2, ?_⟩)
      rw [h3.length]
      exact q _ w1 g1 k1 (.int _)
/-! keywords -/
def permV (π : List Nat) (ws : List Value) : List Value := π.map fun i => ws.getD i .none
def permW (π : List Nat) (zs : List V) : List V := π.map fun i => zs.getD i .non
def permH (π : List Nat) (xs : List HV) : List HV := π.map fun i => xs.getD i (.pu .non)
structure KwOk (fd : FuncData) (ps ks : List Str) (n : Nat) (π : List Nat) : Prop where
  to : ∀ (s : Shared) (us ws : List Value), us.length = n → ws.length = ks.length → BindsTo s fd ⟨us, ks.zip ws⟩ (ps.zip (us ++ permV π ws))
theorem vals_getD : ∀ {zs : List V} {ws : List Value} (i : Nat), Vals zs ws → RelV (zs.getD i .non) (ws.getD i .none)
  | _, _, _, .nil => rfl
  | _, _, 0, .cons h _ => h
  | _, _, i + 1, .cons _ r => by simpa using vals_getD i r
theorem vals_perm {zs : List V} {ws : List Value} (h : Vals zs ws) : ∀ π : List Nat, Vals (permW π zs) (permV π ws)
  | [] => .nil
  | i :: π => .cons (vals_getD i h) (vals_perm h π)
theorem hvs_getD {Z : Zc} {w : Wd} : ∀ {vs : List V} {xs : List HV} (i : Nat), HvsOk Z w vs xs → HvOk Z w (vs.getD i .non) (xs.getD i (.pu .non))
  | [], [], _, _ => .non
  | v :: vs, x :: xs, 0, ⟨h, _⟩ => h
  | v :: vs, x :: xs, i + 1, ⟨_, r⟩ => by simpa using hvs_getD i r
  | [], _ :: _, _, h => h.elim
  | _ :: _, [], _, h => h.elim
theorem hvs_perm {Z : Zc} {w : Wd} {vs : List V} {xs : List HV} (h : HvsOk Z w vs xs) : ∀ π : List Nat, HvsOk Z w (permW π vs) (permH π xs)
  | [] => trivial
  | i :: π => ⟨hvs_getD i h, hvs_perm h π⟩
theorem jxk_nil : PK X [] (tXA (zx X cl) W xNil) := ⟨fun pos pins s σ H Q I ⟨env, w, r, e, k, hr, q⟩ => pk_nil.run pos pins s σ H Q I (by
  subst e
  cases hr
  exact q [] w (Gs.refl k.wf) k trivial)⟩
theorem jxk_cons {nm : Option Str} {kpos : Pos} (ha : PE X e (tX (zx X cl) W f)) (hr : PK X kws (tXA (zx X cl) W fa)) : PK X (⟨nm, e, kpos⟩ :: kws) (tXA (zx X cl) W (xCons f fa)) := by
  refine ⟨fun pos pins s σ H Q I ⟨env, w, r, e, k, h, q⟩ => (pk_cons ha hr).run pos pins s σ H Q I ?_⟩
  subst e
  show tX (zx X cl) W f σ w.H _
  refine tX_bind k h q.late fun x T1 v w1 h1 g1 k1 hx => ?_
  refine tXA_bind k1 h1 (q.late.mono g1) fun xs T2 vs w2 h2 g2 k2 hxs => ?_
  cases h2
  exact q _ w2 (g1.trans g2) k2 ⟨hx.mono g2.n g2.m, hxs⟩
def xMakeK (c : Str) (gi : List HV → Tb → Option (XRes HV)) (ks : List Str) (π : List Nat) (fa : FXA) : FX := fun env => bX (fa env) fun xs T => if xs.length = ks.length then mkX c gi (permH π xs) T else none
def xMethK (c m : Str) (gg : List HV → Tb → Option (XRes HV)) (ks : List Str) (π : List Nat) (o : FX) (fa : FXA) : FX := fun env => bX (o env) fun x T1 => (insOf T1 x).bind fun q => if q.1 = c ∧ m ∉ q.2 then bX (fa ⟨env.s, T1⟩) fun xs T2 => if xs.length = ks.length then gg (x :: permH π xs) T2 else none else none
end
end Vf
namespace Vf
open PySem L2
/-! ### defs by their own worth; the law's end -/
def gFX (np n : Nat) (F : SX) (xs : List HV) (T : Tb) : Option (XRes HV) := if xs.length = np then (F (env0H n xs T)).bind finX else none
theorem gFX_at {np n : Nat} {F : SX} {xs : List HV} {T : Tb} (h : xs.length = np) : gFX np n F xs T = (F (env0H n xs T)).bind finX := if_pos h
theorem gFX_len {np n : Nat} {F : SX} (xs : List HV) (T : Tb) (r : XRes HV) (h : gFX np n F xs T = some r) : xs.length = np := by
  unfold gFX at h
  split at h
  · assumption
  · cases h
theorem gFX_sem {np n : Nat} {F : SX} (xs : List HV) (T : Tb) (r : XRes HV) (h : gFX np n F xs T = some r) : (F (env0H n xs T)).bind finX = some r := by
  unfold gFX at h
  split at h
  · exact h
  · cases h
section
variable {P : Program} {w : World} {K : PySem.W.Frag} {mg : Str → Option Value} {base : Heap} {cl : Str → Option Addr}
/-- what is asked of the law -/
def spL (K : PySem.W.Frag) : Sp := fun vs H Q _ => ∃ a ns, vs = [.ref a] ∧ SqL K H a (ns.map V.int) ∧ LawOk ns ∧ ∀ H', Q (.bl true) H'
theorem spL_start {K : PySem.W.Frag} {H : Hp} {a : Addr} {ns : List Int} (hl : LawOk ns) (hS : SqL K H a (ns.map V.int)) : spL K [.ref a] H (fun v _ => v = .bl true) fun _ _ _ => False := ⟨a, ns, rfl, hS, hl, fun _ => rfl⟩
def scrX (ns : List Int) : HV := .pu (.scr (ns.map D.int))
theorem fn_law {f : Addr} {fd : FuncData} {k : Nat} {g : List HV → Tb → Option (XRes HV)} (F : FnOk P w K mg base (L2N.CX P w) k f fd ["script"] (spX ⟨K, cl⟩ g)) (h : ∀ ns, LawOk ns → Ok (g [scrX ns] []) fun r => ∃ T, r = .val (.pu (.bl true)) T) : FnOk P w K mg base (L2N.CX P w) k f fd ["script"] (spL K) := by
  have imp : ∀ vs H Q E, spL K vs H Q E → spX ⟨K, cl⟩ g vs H Q E := by
    rintro vs H Q E ⟨a, ns, rfl, hS, hl, q⟩
    obtain ⟨r, hr, T, rfl⟩ := h ns hl
    refine ⟨⟨H, H, H, []⟩, [scrX ns], [], _, rfl, ⟨.refl _, .refl _⟩, ⟨rfl, List.nodup_nil, fun a h => (by cases h), fun n M h => (by simp at h)⟩, ⟨?_, trivial⟩, hr, fun x T' e v w' g' hv tb => ?_, fun c ns ys T' e => nomatch e⟩
    · show Rp ⟨K, cl⟩ H (.ref a) (.scr (ns.map D.int))
      refine .scr hS ?_
      clear hS hl q hr
      induction ns with
      | nil => exact .nil
      | cons n ns ih => exact .cons (.int n) ih
    · cases e
      rw [show v = V.bl true from rp_val (d := .bl true) rfl hv]
      exact q _
  exact { F with
    len := fun vs H Q E hh => F.len vs H Q E (imp _ _ _ _ hh)
    run := fun A outer s H args us vs Q E h1 h2 h3 h4 h5 => F.run A outer s H args us vs Q E h1 h2 h3 h4 (imp _ _ _ _ h5) }
theorem cx_false {P : Program} {w : World} (H : Hp) (s : Shared) (e : Value) (s' : Shared) (h : L2N.CX P w [] H s (fun _ _ _ => False) e s') : False := by
  obtain ⟨_, _, _, _, _, _, _, _, _, _, _, _, z⟩ := h
  exact z
end
end Vf
namespace Vf
open PySem L2
def xP (ct : FT) : FXT := fun env => (ct env).map fun b => .val b env.t
theorem jxt_p {X : Cx} {cl : Str → Option Addr} {W : WX} {a : Expr} {ct : FT} (h : PT X a (tT (zx X cl) ct)) : PT X a (tXT (zx X cl) W (xP ct)) := by
  refine pt_w h fun σ H Q ⟨env, w, r, e, k, hr, q⟩ => ?_
  subst e
  obtain ⟨b, h1, rfl⟩ := Option.map_eq_some_iff.mp hr
  exact ⟨env, w, b, rfl, k, h1, fun w1 g1 => q w1 (g1.gs k.wf) (k.mono g1)⟩
abbrev xYes : FXT := fun env => some (.val true env.t)
section
variable {P : Program} {w : World} {K : PySem.W.Frag} {mg : Str → Option Value} {base : Heap} {cl : Str → Option Addr}
theorem kw_of {x qual : Str} {st : Stmt} {f : Addr} {fd : FuncData} {ps ks : List Str} {n : Nat} {π : List Nat} (F : Fun K x qual st f fd)
    (h : ∀ (kV doc pm : Value) (an : Option Addr) (cdv ct : Value) (us ws : List Value), us.length = n → ws.length = ks.length → bindArgs (PySem.W.fnOf x qual (defArgs st) (defBody st) (defScope st) .none kV doc pm an cdv ct) ⟨us, ks.zip ws⟩ = pure (ps.zip (us ++ permV π ws))) : KwOk fd ps ks n π := by
  obtain ⟨oc, od, kV, doc, pm, an, cdv, ct, osl, rfl, lk, hcd⟩ := F.ex
  exact ⟨fun s us ws h1 h2 => .of_eq (h kV doc pm an cdv ct us ws h1 h2)⟩
/-- a def that is never called: where a recursion begins -/
theorem ca_none {x : Str} {st : Stmt} {f : Addr} {fd : FuncData} {ps : List Str} (D : Df K mg x st f fd) (hbi : Binds K fd ps []) (hbk : ∀ (s : Shared) (us : List Value), us.length = ps.length → BindsTo s fd ⟨[], ps.zip us⟩ (ps.zip us)) : Ca P w K mg base cl 0 x ps (fun _ => none) :=
  ⟨⟨f, fd, ⟨fun vs H Q E h => (by obtain ⟨N, rs, r, _, _, _, h, _⟩ := h; cases h), fun A outer s H args us vs Q E _ _ _ _ h => (by obtain ⟨N, rs, r, _, _, _, h, _⟩ := h; cases h)⟩, D.gm, D.fn.kp, hbi, hbk⟩, fun rs r h => (by cases h)⟩
end
end Vf
namespace Vf
open PySem L2
/-! ### what the simplifier may use of worths that change the table -/
section
variable {α β : Type} {o : Option (XRes α)} {k : α → Tb → Option (XRes β)} {kk : α → Tb → Option OutX} {env : Ev} {x y z : HV} {T T' : Tb} {s l : List Sl} {n i : Nat} {d : D} {f g h : FX} {fa : FXA} {c cd : FXT} {A B : SX} {sl : Sl} {xs ys : List HV} {Q : HV → Prop}
@[simp] theorem bX_eq : bX o k = o.bind (kX k) := rfl
@[simp] theorem bS_eq : bS env o kk = o.bind (kS env.s kk) := rfl
@[simp] theorem kX_val {x : α} : kX k (.val x T) = k x T := rfl
@[simp] theorem kX_exc {c : Str} {ns : List Str} : kX k (.exc c ns xs T) = some (.exc c ns xs T) := rfl
@[simp] theorem kS_val {x : α} : kS s kk (.val x T) = kk x T := rfl
@[simp] theorem kS_exc {c : Str} {ns : List Str} : kS s kk (.exc c ns xs T) = some (.ex c ns xs ⟨s, T⟩) := rfl
@[simp] theorem xE_eq {f : FE} : xE f env = (f env).bind fun r => resX r env.t := rfl
@[simp] theorem xH_eq {h : FH} : xH h env = (h env).map fun x => .val x env.t := rfl
@[simp] theorem xOp_eq {o : TD → TD → Option TD} : xOp o f g env = (f env).bind (kX fun x T1 => (g ⟨env.s, T1⟩).bind (kX fun y T2 => opX o x y T2)) := rfl
@[simp] theorem opX_eq {o : TD → TD → Option TD} : opX o x y T = (tdX T x).bind fun a => (tdX T y).bind fun b => (o a b).bind fun r => resX r T := rfl
@[simp] theorem xUn_eq {o : TD → Option TD} : xUn o f env = (f env).bind (kX (unX o)) := rfl
@[simp] theorem unX_eq {o : TD → Option TD} : unX o x T = (tdX T x).bind fun a => (o a).bind fun r => resX r T := rfl
@[simp] theorem xNotV_eq : xNotV f env = (f env).bind (kX fun x T => (boolX x).map fun b => .val (.pu (.bl (!b))) T) := rfl
@[simp] theorem xAndV_eq : xAndV f g env = (f env).bind (kX fun x T => (boolX x).bind fun b => if b then g ⟨env.s, T⟩ else some (.val (.pu (.bl false)) T)) := rfl
@[simp] theorem xOrV_eq : xOrV f g env = (f env).bind (kX fun x T => (boolX x).bind fun b => if b then some (.val (.pu (.bl true)) T) else g ⟨env.s, T⟩) := rfl
@[simp] theorem xTru_eq : xTru f env = (f env).bind (kX fun x T => (truX T x).map fun b => .val b T) := rfl
@[simp] theorem xBl_eq : xBl f env = (f env).bind (kX fun x T => (boolX x).map fun b => .val b T) := rfl
@[simp] theorem xNotT_eq : xNotT c env = (c env).bind (kX fun b T => some (.val (!b) T)) := rfl
@[simp] theorem xAndT_eq : xAndT c cd env = (c env).bind (kX fun b T => if b then cd ⟨env.s, T⟩ else some (.val false T)) := rfl
@[simp] theorem xOrT_eq : xOrT c cd env = (c env).bind (kX fun b T => if b then some (.val true T) else cd ⟨env.s, T⟩) := rfl
@[simp] theorem xIfe_eq : xIfe c f g env = (c env).bind (kX fun b T => if b then f ⟨env.s, T⟩ else g ⟨env.s, T⟩) := rfl
@[simp] theorem xNil_eq : xNil env = some (.val [] env.t) := rfl
@[simp] theorem xCons_eq : xCons f fa env = (f env).bind (kX fun x T => (fa ⟨env.s, T⟩).bind (kX fun xs T2 => some (.val (x :: xs) T2))) := rfl
@[simp] theorem xB_eq {o : List TD → Option TD} : xB o fa env = (fa env).bind (kX (bK o)) := rfl
@[simp] theorem bK_eq {o : List TD → Option TD} : bK o xs T = (mapO (tdX T) xs).bind fun rs => (o rs).bind fun r => resX r T := rfl
@[simp] theorem xCallP_eq {g : List TD → Option TD} : xCallP g fa env = (fa env).bind (kX (pK g)) := rfl
@[simp] theorem pK_eq {g : List TD → Option TD} : pK g xs T = (mapO (tdX T) xs).bind fun rs => (g (rs.map dn)).bind fun r => resX (up r) T := rfl
@[simp] theorem xCall_eq {g : List HV → Tb → Option (XRes HV)} : xCall g fa env = (fa env).bind (kX g) := rfl
@[simp] theorem xP_eq {ct : FT} : xP ct env = (ct env).map fun b => .val b env.t := rfl
@[simp] theorem mapO_nil {f : α → Option β} : mapO f [] = some [] := rfl
@[simp] theorem mapO_cons {f : α → Option β} {x : α} {xs : List α} : mapO f (x :: xs) = (f x).bind fun y => (mapO f xs).map fun ys => y :: ys := rfl
@[simp] theorem tdX_pu : tdX T (.pu d) = some (.N, d) := rfl
@[simp] theorem resX_N : resX (.N, d) T = some (.val (.pu d) T) := rfl
@[simp] theorem boolX_bl {b : Bool} : boolX (.pu (.bl b)) = some b := rfl
@[simp] theorem truX_pu : truX T (.pu d) = tru (.N, d) := rfl
@[simp] theorem hVar_0h : hVar 0 ⟨.han n :: l, T⟩ = some (.ob n) := rfl
@[simp] theorem hVar_0v : hVar 0 ⟨.val .N d :: l, T⟩ = some (.pu d) := rfl
@[simp] theorem hVar_s : hVar (n + 1) ⟨sl :: l, T⟩ = hVar n ⟨l, T⟩ := rfl
@[simp] theorem slH_pu : slH (.pu d) = .val .N d := rfl
@[simp] theorem slH_ob : slH (.ob n) = .han n := rfl
@[simp] theorem env0H_eq : env0H n xs T = ⟨xs.map slH ++ List.replicate (n - xs.length) .un, T⟩ := rfl
@[simp] theorem setHS_pu : setHS n (.pu d) ⟨l, T⟩ = if n < l.length then some ⟨l.set n (.val .N d), T⟩ else none := rfl
@[simp] theorem setHS_ob : setHS n (.ob i) ⟨l, T⟩ = if n < l.length then some ⟨l.set n (.han i), T⟩ else none := rfl
@[simp] theorem zNx_eq : zNx env = some (.nx env) := rfl
@[simp] theorem zThen_nx : zThen B (.nx env) = B env := rfl
@[simp] theorem zThen_rt : zThen B (.rt x T) = some (.rt x T) := rfl
@[simp] theorem zThen_bk : zThen B (.bk env) = some (.bk env) := rfl
@[simp] theorem zThen_ct : zThen B (.ct env) = some (.ct env) := rfl
@[simp] theorem zThen_ex {c : Str} {ns : List Str} : zThen B (.ex c ns xs env) = some (.ex c ns xs env) := rfl
@[simp] theorem zSeq_eq : zSeq A B env = (A env).bind (zThen B) := rfl
@[simp] theorem liftO_nx : liftO (.nx env) = some (.nx env) := rfl
@[simp] theorem zLift_eq {f : FS} : zLift f env = (f env).bind liftO := rfl
@[simp] theorem zSet_eq : zSet n f env = (f env).bind (kS env.s (setZ n env.s)) := rfl
@[simp] theorem setZ_eq : setZ n s x T = (setHS n x ⟨s, T⟩).map .nx := rfl
@[simp] theorem zRet_eq : zRet f env = (f env).bind (kS env.s fun x T => some (.rt x T)) := rfl
@[simp] theorem zDo_eq : zDo f env = (f env).bind (kS env.s fun _ T => some (.nx ⟨env.s, T⟩)) := rfl
@[simp] theorem zIf_eq : zIf c A B env = (c env).bind (kS env.s fun k T => if k then A ⟨env.s, T⟩ else B ⟨env.s, T⟩) := rfl
@[simp] theorem zSto_eq {cs : List Str} {m : Str} : zSto cs m f g env = (g env).bind (kS env.s fun x T1 => (f ⟨env.s, T1⟩).bind (kS env.s fun y T2 => stoZ cs m env.s x y T2)) := rfl
@[simp] theorem zPut_eq : zPut f g h env = (h env).bind (kS env.s fun x T1 => (f ⟨env.s, T1⟩).bind (kS env.s fun y T2 => (g ⟨env.s, T2⟩).bind (kS env.s fun j T3 => putZ env.s x y j T3))) := rfl
@[simp] theorem zFor_eq {fi : FI} {st : TD → Ev → Option Ev} : zFor fi st A env = (fi env).bind fun items => forZ A st items env := rfl
@[simp] theorem zForH_eq {st : HV → Ev → Option Ev} : zForH f st A env = (f env).bind (kS env.s (forHK A st env.s)) := rfl
@[simp] theorem forHK_eq {st : HV → Ev → Option Ev} : forHK A st s x T = (srcM T x).bind fun M => forH A st x M (mobI M) ⟨s, T⟩ := rfl
@[simp] theorem finX_rt : finX (.rt x T) = some (.val x T) := rfl
@[simp] theorem finX_nx : finX (.nx env) = some (.val (.pu .non) env.t) := rfl
@[simp] theorem finX_ex {c : Str} {ns : List Str} : finX (.ex c ns xs env) = some (.exc c ns xs env.t) := rfl
@[simp] theorem xTup_eq : xTup fa env = (fa env).bind (kX tupK) := rfl
@[simp] theorem xLst_eq : xLst fa env = (fa env).bind (kX lstK) := rfl
@[simp] theorem xFld_eq {cs : List Str} {m : Str} : xFld cs m f env = (f env).bind (kX (fldX cs m)) := rfl
@[simp] theorem xIx_eq : xIx f g env = (f env).bind (kX fun x T1 => (g ⟨env.s, T1⟩).bind (kX fun y T2 => ixK x y T2)) := rfl
@[simp] theorem ixK_int {j : Int} : ixK x (.pu (.int j)) T = (ixX T x j).map fun z => .val z T := rfl
@[simp] theorem xLm_eq {m : List HV → List HV → Option (HV × List HV)} : xLm m f fa env = (f env).bind (kX fun x T1 => (isLst T1 x).bind fun _ => (fa ⟨env.s, T1⟩).bind (kX fun xs T2 => lmK m x xs T2)) := rfl
@[simp] theorem xMeth_eq {c m : Str} {gg : List HV → Tb → Option (XRes HV)} : xMeth c m gg f fa env = (f env).bind (kX fun x T1 => (insOf T1 x).bind fun q => if q.1 = c ∧ m ∉ q.2 then (fa ⟨env.s, T1⟩).bind (kX fun xs T2 => gg (x :: xs) T2) else none) := rfl
@[simp] theorem xMethK_eq {c m : Str} {gg : List HV → Tb → Option (XRes HV)} {ks : List Str} {π : List Nat} : xMethK c m gg ks π f fa env = (f env).bind (kX fun x T1 => (insOf T1 x).bind fun q => if q.1 = c ∧ m ∉ q.2 then (fa ⟨env.s, T1⟩).bind (kX fun xs T2 => if xs.length = ks.length then gg (x :: permH π xs) T2 else none) else none) := rfl
@[simp] theorem xMake_eq {c : Str} {gg : List HV → Tb → Option (XRes HV)} : xMake c gg fa env = (fa env).bind (kX (mkX c gg)) := rfl
@[simp] theorem xMakeK_eq {c : Str} {gg : List HV → Tb → Option (XRes HV)} {ks : List Str} {π : List Nat} : xMakeK c gg ks π fa env = (fa env).bind (kX fun xs T => if xs.length = ks.length then mkX c gg (permH π xs) T else none) := rfl
@[simp] theorem mkX_eq {c : Str} {gg : List HV → Tb → Option (XRes HV)} : mkX c gg xs T = (gg (.ob T.length :: xs) (T ++ [some (.ins c [] [])])).bind (mkR T.length) := rfl
@[simp] theorem mkR_non : mkR n (.val (.pu .non) T) = some (.val (.ob n) T) := rfl
@[simp] theorem xIsi_eq {t : String} : xIsi t f env = (f env).bind (kX (isiX t)) := rfl
@[simp] theorem isiX_eq {t : String} : isiX t x T = (tdX T x).bind fun r => (isiD r.2 t).map fun k => .val (.pu (.bl k)) T := rfl
@[simp] theorem xList_eq : xList f env = (f env).bind (kX listK) := rfl
@[simp] theorem listK_eq : listK x T = (srcM T x).map fun M => .val (.ob T.length) (T ++ [some (.lst (mobI M))]) := rfl
@[simp] theorem xTupOf_eq : xTupOf f env = (f env).bind (kX tupOfK) := rfl
@[simp] theorem xLen_eq : xLen f env = (f env).bind (kX lenK) := rfl
@[simp] theorem lenK_pu : lenK (.pu d) T = (lenB [(.N, d)]).bind fun r => resX r T := rfl
@[simp] theorem lenK_ob {M : Mob} (h : srcM T (.ob n) = some M) : lenK (.ob n) T = some (.val (.pu (.int (mobI M).length)) T) := by
  unfold lenK
  unfold srcM at h
  dsimp only at h ⊢
  split
  · rename_i e; rw [e] at h; cases h
  · show (srcM T (.ob n)).map _ = _
    unfold srcM
    dsimp only
    rw [h]; rfl
@[simp] theorem ixK_str {z : Str} : ixK x (.pu (.str z)) T = (ixXS T x z).map fun y => .val y T := rfl
@[simp] theorem mobI_lst : mobI (.lst xs) = xs := rfl
@[simp] theorem mobI_tup : mobI (.tup xs) = xs := rfl
@[simp] theorem srcM_l {ds : List D} : srcM T (.pu (.lst ds)) = some (.lst (ds.map .pu)) := rfl
@[simp] theorem srcM_s {ds : List D} : srcM T (.pu (.scr ds)) = some (.lst (ds.map .pu)) := rfl
@[simp] theorem srcM_t {ds : List D} : srcM T (.pu (.tup ds)) = some (.tup (ds.map .pu)) := rfl
theorem srcM_ob (h : T[n]? = some (some (.lst xs))) : srcM T (.ob n) = some (.lst xs) := by
  unfold srcM
  simp [h]
theorem obLst_ob (h : T[n]? = some (some (.lst xs))) : obLst T (.ob n) = some (n, xs) := by
  unfold obLst
  simp [h]
theorem lmK_ob {m : List HV → List HV → Option (HV × List HV)} (h : T[n]? = some (some (.lst ys))) : lmK m (.ob n) xs T = (m ys xs).map fun r => .val r.1 (T.set n (some (.lst r.2))) := by
  unfold lmK
  rw [obLst_ob h]
  rfl
theorem snap_ob {M : Mob} (h : T[n]? = some (some M)) : snapN T (i + 1) (.ob n) = snapM (snapN T i) M := by
  show (match T[n]? with | some (some M) => snapM (snapN T i) M | _ => none) = _
  rw [h]
@[simp] theorem snapN_pu : snapN T i (.pu d) = some d := by cases i <;> rfl
@[simp] theorem snapM_lst {f : HV → Option D} : snapM f (.lst xs) = (mapO f xs).map .lst := rfl
@[simp] theorem snapM_tup {f : HV → Option D} : snapM f (.tup xs) = (mapO f xs).map .tup := rfl
@[simp] theorem snapM_ins {f : HV → Option D} {c : Str} {fs : List Str} : snapM f (.ins c fs xs) = (mapO f xs).map (.ins c fs) := rfl
theorem tdX_ob {M : Mob} (h : T[n]? = some (some M)) : tdX T (.ob n) = (snapM (snapN T 8) M).map fun d => (.T, d) := by
  show (snapN T 9 (.ob n)).map _ = _
  rw [snap_ob h]
theorem mapO_map {f : β → Option D} {g : α → β} {F : α → D} : ∀ {xs : List α}, (∀ x ∈ xs, f (g x) = some (F x)) → mapO f (xs.map g) = some (xs.map F)
  | [], _ => rfl
  | x :: xs, h => by
    rw [List.map_cons, mapO_cons, h x List.mem_cons_self, mapO_map fun y hy => h y (List.mem_cons_of_mem _ hy)]
    rfl
@[simp] theorem mapO_pus {ds : List D} : mapO (snapN T i) (ds.map .pu) = some ds := by
  have := mapO_map (f := snapN T i) (g := HV.pu) (F := fun d => d) (xs := ds) fun x _ => snapN_pu
  simpa using this
@[simp] theorem pures_pus : ∀ {ds : List D}, pures (ds.map .pu) = some ds
  | [] => rfl
  | d :: ds => by
    show (pures (ds.map .pu)).map (d :: ·) = _
    rw [pures_pus]
    rfl
@[simp] theorem ixX_pu {j : Int} : ixX T (.pu d) j = (ixD (.N, d) j).bind fun r => if r.1 = .N then some (.pu r.2) else none := rfl
theorem ixX_lst {j : Int} (h : T[n]? = some (some (.lst xs))) : ixX T (.ob n) j = atI xs j := by
  unfold ixX
  simp [h]
@[simp] theorem mApp_one : mApp ys [x] = if ys.length ≤ lim then some (.pu .non, ys ++ [x]) else none := rfl
@[simp] theorem setXCons_cons {st : HV → Ev → Option Ev} {r : List HV → Ev → Option Ev} : setXCons st r (x :: xs) env = (st x env).bind fun e => r xs e := rfl
@[simp] theorem setXTup_eq {r : List HV → Ev → Option Ev} : setXTup n r x env = (srcM env.t x).bind fun M => if (mobI M).length = n then r (mobI M) env else none := rfl
end
/-! loops -/
theorem forZ_inv {A : SX} {s : TD → Ev → Option Ev} {Q : OutX → Prop} : ∀ {items : List TD} (I : Nat → Ev → Prop) (k0 : Nat) {env : Ev}, I k0 env →
    (∀ (k : Nat) (r : TD) (env : Ev), items[k]? = some r → I (k0 + k) env → Ok (s r env) fun e1 => Ok (A e1) fun o => match o with
      | .nx e => I (k0 + k + 1) e
      | .ct e => I (k0 + k + 1) e
      | .bk e => Q (.nx e)
      | o => Q o) → (∀ env, I (k0 + items.length) env → Q (.nx env)) → Ok (forZ A s items env) Q
  | [], I, k0, env, h0, _, he => Ok_some.mpr (he env h0)
  | r :: rs, I, k0, env, h0, hs, he => by
    obtain ⟨e1, q1, o, q2, q3⟩ := hs 0 r env rfl h0
    show Ok ((s r env).bind _) Q
    rw [q1]
    show Ok ((A e1).bind _) Q
    rw [q2]
    have next : ∀ e, I (k0 + 1) e → Ok (forZ A s rs e) Q := fun e hi => forZ_inv I (k0 + 1) hi (fun k r env hk hI => by
      have := hs (k + 1) r env (by simpa using hk) (by rw [Nat.add_assoc, Nat.add_comm 1 k] at hI; exact hI)
      rw [Nat.add_assoc k0 1 k, Nat.add_comm 1 k]
      exact this) (fun env hI => he env (by rw [List.length_cons, Nat.add_comm rs.length 1, ← Nat.add_assoc]; exact hI))
    cases o with
    | nx e => exact next e q3
    | ct e => exact next e q3
    | bk e => exact Ok_some.mpr q3
    | rt x T => exact Ok_some.mpr q3
    | ex c ns xs e => exact Ok_some.mpr q3
theorem forZ_ok {A : SX} {s : TD → Ev → Option Ev} {Q : OutX → Prop} {items : List TD} (I : Nat → Ev → Prop) {env : Ev} (h0 : I 0 env)
    (hs : ∀ (k : Nat) (r : TD) (env : Ev), items[k]? = some r → I k env → Ok (s r env) fun e1 => Ok (A e1) fun o => match o with
      | .nx e => I (k + 1) e
      | .ct e => I (k + 1) e
      | .bk e => Q (.nx e)
      | o => Q o) (he : ∀ env, I items.length env → Q (.nx env)) : Ok (forZ A s items env) Q :=
  forZ_inv I 0 h0 (fun k r env hk hI => by simpa using hs k r env hk (by simpa using hI)) (fun env hI => he env (by simpa using hI))
@[simp] theorem xLc_eq {f : FX} {s : HV → Ev → Option Ev} {ct : FXT} {fe : FX} {vs : List Nat} {l : List Sl} {T0 : Tb} : xLc f s ct fe vs ⟨l, T0⟩ = if ownFree l then (f ⟨l, T0⟩).bind (kX fun x T => lcXK ct fe s (wipeE ⟨l, T⟩ vs).s x T) else none := rfl
@[simp] theorem ownFree_nil : ownFree [] = true := rfl
@[simp] theorem ownFree_un {l : List Sl} : ownFree (.un :: l) = ownFree l := rfl
@[simp] theorem ownFree_val {l : List Sl} {t : Tg} {d : D} : ownFree (.val t d :: l) = ownFree l := rfl
@[simp] theorem ownFree_han {l : List Sl} {n : Nat} : ownFree (.han n :: l) = ownFree l := rfl
@[simp] theorem lcXK_eq {ct : FXT} {fe : FX} {s : HV → Ev → Option Ev} {sl : List Sl} {x : HV} {T : Tb} : lcXK ct fe s sl x T = (srcM T x).bind fun M => if (mobI M).length ≤ lim then (lcX ct fe s sl x M (mobI M) T).map fun r => .val (.ob r.2.length) (r.2 ++ [some (.lst r.1)]) else none := rfl
end Vf
/-! tuple * int, all numbers up to a thousand -/
namespace Vf
open PySem PySem.Spec PyProof.Rows L2
theorem tuple_mul1 (l : Addr) (items : Array Value) (n : Nat) (dd : Option Addr) (sl : Array (Option Value)) (u : Tok) :
    Meets (Builtin.«tuple.__mul__» ⟨[.ref l, .int 1 u], []⟩) (fun _ R s => s.heap.get? l = some { cls := .type "tuple", dict := dd, data := .seq items n, slots := sl } ∧
      R (.ok (.ret (Value.ref l))) s) :=
  .of_wp fun prog w A R s h => by
    obtain ⟨hp, g, d, tk, os⟩ := s
    obtain ⟨hl, h⟩ := h
    have f1 := AutoSeq1.idx_int
    wp_walk using wpAny_loadPart' hl
    repeat (first
      | (refine wpAny_ite_false (decide_eq_false (by decide)) ?_; wp_walk using wpAny_loadPart' hl)
      | (refine wpAny_ite_true (by simp) ?_; wp_walk using wpAny_loadPart' hl))
    exact ⟨_, rfl, h⟩
theorem tuple_mul0 (l : Addr) (items : Array Value) (n : Nat) (dd : Option Addr) (sl : Array (Option Value)) (x : Int) (u : Tok) (c0 : (decide (x < -(2 ^ 63)) || decide (x ≥ 2 ^ 63)) = false) (c1 : (items.isEmpty || x == 1) = false) (c2 : (decide (x ≤ 0) || items.isEmpty) = true) :
    Meets (Builtin.«tuple.__mul__» ⟨[.ref l, .int x u], []⟩) (fun _ R s => s.heap.get? l = some { cls := .type "tuple", dict := dd, data := .seq items n, slots := sl } ∧
      R (.ok (.ret (Value.ref s.heap.objs.size))) { s with heap := s.heap.push { cls := Value.type "tuple", data := Data.seq #[] }, toks := s.toks }) :=
  .of_wp fun prog w A R s h => by
    obtain ⟨hp, g, d, tk, os⟩ := s
    obtain ⟨hl, h⟩ := h
    have f1 := AutoSeq1.idx_int
    wp_walk using wpAny_loadPart' hl
    repeat (first
      | (refine wpAny_ite_false (decide_eq_false (by rw [c0]; exact Bool.false_ne_true)) ?_; wp_walk using wpAny_loadPart' hl)
      | (refine wpAny_ite_false (decide_eq_false (by rw [c1]; exact Bool.false_ne_true)) ?_; wp_walk using wpAny_loadPart' hl)
      | (refine wpAny_ite_true (decide_eq_true c2) ?_; wp_walk using wpAny_loadPart' hl))
    exact ⟨_, rfl, h⟩
/-- tuple * number -/
def rRepX (K : PySem.W.Frag) : R2 := fun x y H Q => ∃ l k xs, x = .ref l ∧ y = .int k ∧ SqT K H l xs ∧ xs ≠ [] ∧ xs.length ≤ 1000 ∧ -1000 ≤ k ∧ k ≤ 1000 ∧ (k = 1 → Q (.ref l) H) ∧ (k ≠ 1 → ∀ p, H p = none → Q (.ref p) (upd H p (.tup (List.replicate k.toNat xs).flatten)))
theorem op_repX {X : Cx} : OpR X (binaryOp .Mult) (rRepX X.K) := by
  intro pins s σ H x y v u Q I rx ry h
  obtain ⟨l, k, xs, rfl, rfl, hT, hne, hz, h1, h2, q1, q2⟩ := h
  by_cases hk2 : 2 ≤ k
  · exact op_repT pins s σ H _ _ v u Q I rx ry ⟨l, k, xs, rfl, rfl, hT, hne, hk2, h2, hz, q2 (by omega)⟩
  cases rx
  obtain ⟨t, rfl⟩ := ry
  obtain ⟨its, r, ⟨⟨cls, dd, data, sl⟩, ho, hc, n, hd⟩, hs⟩ := I.tuple hT
  simp only at hc hd
  subst hc hd
  have hle : its.length = xs.length := r.length.symm
  have hn : its ≠ [] := fun e => hne (by
    rw [e] at hle
    exact List.eq_nil_of_length_eq_zero hle.symm)
  have hi : its.toArray.isEmpty = false := by
    cases its with
    | nil => exact absurd rfl hn
    | cons a b => rfl
  by_cases hk1 : k = 1
  · subst hk1
    refine wpAny_binaryOp_repeat_ref (T := "tuple") (U := "int") (by decide) ⟨_, ho, rfl⟩ (fun s' => typeIs_int s' 1 t) noFill_tuple_mul F.fills_int_mul F.slot_int_rmul repeat_tuple F.slot_int_index.lookup
      (call_meets F.slot_int_rmul (typeIs_int s 1 t) F.entry_int_rmul (F.args_int_rmul_2 _ _) (int_rmul_tuple 1 t l its.toArray n dd sl)
        ⟨ho, rfl, ⟨_, ho, rfl⟩, call_meets F.slot_tuple_mul ⟨_, ho, rfl⟩ F.entry_tuple_mul (F.args_tuple_mul_2 _ _) (tuple_mul1 l its.toArray n dd sl t) ⟨ho, ?_⟩⟩)
    exact ⟨.ref l, H, I, rfl, q1 rfl⟩
  · have c0 : (decide (k < -(2 ^ 63)) || decide (k ≥ 2 ^ 63)) = false := by
      rw [decide_eq_false (by omega), decide_eq_false (by omega)] <;> rfl
    have c1 : (its.toArray.isEmpty || k == 1) = false := by
      rw [hi, Bool.false_or]
      exact beq_eq_false_iff_ne.mpr hk1
    have c2 : (decide (k ≤ 0) || its.toArray.isEmpty) = true := by
      rw [decide_eq_true (by omega), Bool.true_or]
    refine wpAny_binaryOp_repeat_ref (T := "tuple") (U := "int") (by decide) ⟨_, ho, rfl⟩ (fun s' => typeIs_int s' k t) noFill_tuple_mul F.fills_int_mul F.slot_int_rmul repeat_tuple F.slot_int_index.lookup
      (call_meets F.slot_int_rmul (typeIs_int s k t) F.entry_int_rmul (F.args_int_rmul_2 _ _) (int_rmul_tuple k t l its.toArray n dd sl)
        ⟨ho, rfl, ⟨_, ho, rfl⟩, call_meets F.slot_tuple_mul ⟨_, ho, rfl⟩ F.entry_tuple_mul (F.args_tuple_mul_2 _ _) (tuple_mul0 l its.toArray n dd sl k t c0 c1 c2) ⟨ho, ?_⟩⟩)
    have e0 : (List.replicate k.toNat xs).flatten = [] := by
      have : k.toNat = 0 := by omega
      rw [this]
      rfl
    have qq := q2 hk1 _ (I.hok.fresh (Nat.le_refl _))
    rw [e0] at qq
    refine ⟨.ref s.heap.objs.size, _, I.laid (t' := s.toks) (o := .tup []) (fun b ob q => Heap.get?_push_of_some _ q) (Nat.le_refl _) ?_, rfl, qq⟩
    exact ⟨by rw [sizeLine_eq]; exact Nat.zero_le _, [], .nil, IsTup.new _ _⟩
noncomputable def oMulX (a b : TD) : Option TD := match a.2 with
  | .tup xs => (match b.2 with
    | .int k => cif (xs ≠ [] ∧ xs.length ≤ 1000 ∧ -1000 ≤ k ∧ k ≤ 1000) (some (if k = 1 then (a.1, .tup xs) else (el a.1, .tup (List.replicate k.toNat xs).flatten))) none
    | _ => none)
  | _ => oMul a b
theorem or_mulX {X : Cx} {cl : Str → Option Addr} : OpR X (binaryOp .Mult) (rO (zx X cl) oMulX) := by
  rintro pins s σ H x y v u Q I rx ry ⟨w, ⟨t, d⟩, ⟨t', d'⟩, z, eH, hw, ha, hb, ho, q⟩
  unfold oMulX at ho
  dsimp only at ho
  split at ho
  · rename_i xs
    split at ho
    · rename_i k
      obtain ⟨hc, ho⟩ := cif_get ho
      cases ho
      have ha' := ha
      obtain ⟨p, vs, rfl, h1, h2⟩ := ha.tup hw
      have e2 := rv_int hw hb
      subst eH e2
      refine op_repX pins s σ w.H _ _ v u Q I rx ry ⟨p, k, vs, rfl, rfl, h1, ?_, ?_, hc.2.2.1, hc.2.2.2, fun hk => ?_, fun hk np hnp => ?_⟩
      · intro e
        subst e
        cases h2
        exact hc.1 rfl
      · rw [h2.length]; exact hc.2.1
      · rw [if_pos hk] at q
        exact q _ w (Gr.refl hw) ha'
      · rw [if_neg hk] at q
        have g := Gr.put hw (t := el t) (o := .tup (List.replicate k.toNat vs).flatten) hnp
        have := q _ _ g (new_tup hw (el_ne _) hnp (h2.rep _))
        rw [put_H] at this
        exact this
    · cases ho
  · exact or_mul (cl := cl) pins s σ H x y v u Q I rx ry ⟨w, (t, d), (t', d'), z, eH, hw, ha, hb, ho, q⟩
section
variable {t u : Tg} {i k : Int} {xs : List D} {x : Str} {r : TD} {Q : TD → Prop}
@[simp] theorem oMulX_int : oMulX (t, .int i) r = oMul (t, .int i) r := rfl
@[simp] theorem oMulX_lst : oMulX (t, .lst xs) r = oMul (t, .lst xs) r := rfl
@[simp] theorem oMulX_str : oMulX (t, .str x) r = oMul (t, .str x) r := rfl
@[simp] theorem Ok_oMulX_tup : Ok (oMulX (t, .tup xs) (u, .int k)) Q ↔ (xs ≠ [] ∧ xs.length ≤ 1000 ∧ -1000 ≤ k ∧ k ≤ 1000) ∧ Q (if k = 1 then (t, .tup xs) else (el t, .tup (List.replicate k.toNat xs).flatten)) := by
  show Ok (cif _ _ none) Q ↔ _
  simp
end
end Vf
namespace Vf
open PySem L2
/-! ### pop(i), insert(i, e) -/
noncomputable def mPopI (ys as : List HV) : Option (HV × List HV) := match as with | [.pu (.int i)] => cif (-4611686018427387904 ≤ i ∧ i < 4611686018427387904) ((ixN ys.length i).bind fun k => (ys[k]?).map fun y => (y, ys.eraseIdx k)) none | _ => none
@[simp] theorem Ok_mPopI {ys : List HV} {i : Int} {Q : HV × List HV → Prop} : Ok (mPopI ys [.pu (.int i)]) Q ↔ (-4611686018427387904 ≤ i ∧ i < 4611686018427387904) ∧ Ok ((ixN ys.length i).bind fun k => (ys[k]?).map fun y => (y, ys.eraseIdx k)) Q := by
  show Ok (cif _ _ none) Q ↔ _
  exact Ok_cif
@[simp] theorem Ok_mIns {ys : List HV} {i : Int} {y : HV} {Q : HV × List HV → Prop} : Ok (mIns ys [.pu (.int i), y]) Q ↔ (ys.length ≤ lim ∧ 0 ≤ i ∧ i < 4611686018427387904) ∧ Q (.pu .non, ys.take i.toNat ++ [y] ++ ys.drop i.toNat) := by
  show Ok (cif _ _ none) Q ↔ _
  rw [Ok_cif, Ok_some]
end Vf
namespace Vf
open PySem L2
/-! ### an exception object with its own __init__, made outside of a raise -/
section
variable {X : Cx} {E : XK} {x : Str} {C fI : Addr} {k : Nat} {fd : FuncData} {ps : List Str} {sp : Sp} {ds : List Value} {dvs : List V} {e : Expr} {es : List Expr} {ta : TA} {p pos : Pos}
/-- the same, to be raised: nothing is handled, so its context is none -/
theorem runN_oex {CX : CXT} {pins : List (Addr × Obj)} {σ : L2.St} {H1 : Hp} {s1 : Shared} {G : XK} {us : List Value} {vs : List V} (T : OexC X.K C) (iC : PySem.W.findIn X.K (.ref C) "__init__" = some (some (.ref fI))) (tI : PySem.W.typeIn X.K (.ref fI) = some (.type "function"))
    (F1 : FnOk X.prog X.w X.K X.mg X.base CX k fI fd ps sp) (hr : Room (k + 1) X.A) (hb : Binds X.K fd ps ds) (hd : Vals dvs ds) (hx : Passes CX X E) (I1 : Inv X pins σ H1 s1) (r1 : Vals vs us) (hz : vs.length ≤ 1000)
    (h : ∀ a, H1 a = none → sp (.ref a :: (vs ++ dvs)) (upd H1 a (exo a C none)) (fun v H2 => v = .non ∧ ∃ (d : Addr) (fs : List (Str × V)), H2 a = some (exo a C (some d)) ∧ H2 d = some (exd d fs) ∧ H1 d = none ∧ G (.ref C) (some d) (upd (del H2 a) d (.xd fs))) E) :
    wpAny (model X.prog X.w) X.A (call (.ref C) us) (L2N.MkP X pins σ G) X.xe s1 := by
  obtain ⟨nm, q, N, bs, bm, sn, sub, ab, col, dd, k0, k1, k2, k3, k5, hC, hbm⟩ := T.cls
  obtain ⟨hp, g, dr, tk, os⟩ := s1
  have hget : ((hp.push (PySem.W.kdv_tup us)).push (PySem.HandSPX.excO C hp.objs.size)).get? (hp.objs.size + 1) = some (PySem.HandSPX.excO C hp.objs.size) := by heap_get
  have up : hp.objs.size ≤ hp.objs.size + 1 := Nat.le_succ _
  have none_ : H1 (hp.objs.size + 1) = none := I1.hok.fresh up
  have go := h (hp.objs.size + 1) none_
  have stays : ∀ b o, hp.get? b = some o → ((hp.push (PySem.W.kdv_tup us)).push (PySem.HandSPX.excO C hp.objs.size)).get? b = some o := fun b o z => Heap.get?_push_of_some _ (Heap.get?_push_of_some _ z)
  have I2 := I1.laid (t' := tk) (a := hp.objs.size + 1) (o := exo (hp.objs.size + 1) C none) (h' := (hp.push (PySem.W.kdv_tup us)).push (PySem.HandSPX.excO C hp.objs.size)) stays up (exo_ok hget)
  have r2 : Vals (V.ref (hp.objs.size + 1) :: (vs ++ dvs)) (Value.ref (hp.objs.size + 1) :: (us ++ ds)) := .cons rfl (r1.append hd)
  have hl : (Value.ref (hp.objs.size + 1) :: us ++ ds).length = ps.length := (F1.len _ _ _ _ go ▸ r2.length).symm
  have few : us.length ≤ sizeLine := by
    have := Paired.length r1
    rw [sizeLine_eq]
    omega
  refine wpAny_call (PySem.HandSPX.call_own F.excBase_ValueError (fun Y => PySem.HandSPX.refsVE_contains Y bm hbm) (I1.kIn _ _ hC) (PySem.W.looks_findIn I1.kIn iC) (fun self => PySem.W.bind_fn I1.kIn self tI) few
    (codeAny_mono (F1.run _ X.stack _ _ ⟨Value.ref (hp.objs.size + 1) :: us, []⟩ (Value.ref (hp.objs.size + 1) :: (us ++ ds)) _ _ E (hr.make C us []) (I2.env0.make C us []) (hb _ (Value.ref (hp.objs.size + 1) :: us) I2.kIn hl) r2 go) fun r s' hq' => ?_))
  cases r with
  | error er => exact hx pins σ _ _ er s' I2 hq'
  | ok fl =>
    cases fl with
    | ret u =>
      obtain ⟨h2, gg, dd2, tt, oo⟩ := s'
      obtain ⟨v, HE, oe, bare, unE, hokE, rv, ev, dA, fsA, eA, eD, eN, qA⟩ := hq'
      subst ev
      obtain ⟨tA, GA, JA, kA, gA, hA, nA⟩ := mk_end0 (d2 := dd2) (t2 := tt) I1 up stays unE hokE oe bare eA eD eN
      exact ⟨rv, _, _, _, ⟨GA, gg, dd2, tt, oo⟩, _, .ref C, some dA, rfl, JA, kA, gA, hA, ⟨rfl, rfl, fun ys e9 => by cases e9; rfl⟩, rfl, rfl, nA, rfl, bare, raises_own T.exC T.tyC, qA⟩
    | next => exact False.elim hq'
    | brk => exact False.elim hq'
    | cont => exact False.elim hq'
theorem pmkN_oex {CX : CXT} (T : OexC X.K C) (iC : PySem.W.findIn X.K (.ref C) "__init__" = some (some (.ref fI))) (tI : PySem.W.typeIn X.K (.ref fI) = some (.type "function"))
    (F1 : FnOk X.prog X.w X.K X.mg X.base CX k fI fd ps sp) (hr : Room (k + 1) X.A) (hb : Binds X.K fd ps ds) (hd : Vals dvs ds) (hx : Passes CX X (fun _ _ _ => False)) (hg : Gl X x) (hm : X.mg x = some (.ref C)) (ha : PA X (e :: es) ta)
    (hdb : (x == ("__debug__" : Str)) = false := by decide) (he : starEach (e :: es) X.env = (false, eval e X.env) :: starEach es X.env := by rfl) (hpl : (backTo pos (starEach es X.env)).any (·.1) = false := by rfl) :
    L2N.PMk X (.Call (.Name x p) (e :: es) [] pos) (tMkO C sp dvs ta) := fun pins s0 σ H0 G J hh =>
  wpAny_Call_Name_kw (ld_glob J hg hm (PySem.W.callWith_K (h₀ := X.base) J.ok.mod.kin T.kC (thn (ha.run pos pins s0 σ H0 _ J hh) fun us s1 ⟨vs, H1, I1, r1, hz, q1⟩ => ⟨I1.kIn, runN_oex T iC tI F1 hr hb hd hx I1 r1 hz q1⟩) he hpl) hdb)
end
end Vf
namespace Vf
open PySem L2
/-! ### the __init__ of an exception class: rows self.f = e, e pure -/
/-- the object at a as it stands: nothing stored yet, or its dict at dx; neither is known to anyone else -/
def IniAt (w : Wd) (a C : Addr) (st : List (Str × V)) : Prop := w.B a = none ∧ ((st = [] ∧ w.H a = some (exo a C none)) ∨ ∃ dx, w.B dx = none ∧ dx ≠ a ∧ w.H a = some (exo a C (some dx)) ∧ w.H dx = some (exd dx st))
abbrev EI := List (Str × FE)
/-- what is stored, the latest first -/
def evI : EI → Ev → List (Str × D) → Option (List (Str × D))
  | [], _, st => some st
  | (n, f) :: fs, env, st => (f env).bind fun r => if r.1 = .N then evI fs env ((n, r.2) :: st) else none
def StOk (Z : Zc) (w : Wd) (sv : List (Str × V)) (sd : List (Str × D)) : Prop := sv.map (·.1) = sd.map (·.1) ∧ RpL Z w.N (sv.map (·.2)) (sd.map (·.2))
def plainS (env : Ev) : Prop := env.t = [] ∧ ∀ s ∈ env.s, s = .un ∨ ∃ t d, s = .val t d
def tIn (Z : Zc) (C : Addr) (fs : EI) : TS := fun G σ H => ∃ (env : Ev) (w : Wd) (a : Addr) (sv : List (Str × V)) (sd out : List (Str × D)), w.H = H ∧ Wok Z env σ w ∧ w.m = [] ∧ plainS env ∧ σ[0]? = some (some (.ref a)) ∧ IniAt w a C sv ∧ StOk Z w sv sd ∧ sd.length + fs.length ≤ 900 ∧ OexC Z.K C ∧ (∀ n f, (n, f) ∈ fs → PySem.W.findIn Z.K (.ref C) n = some none) ∧ evI fs env sd = some out ∧
  ∀ w' sv', Gs w w' → IniAt w' a C sv' → StOk Z w' sv' out → G.nx σ w'.H
theorem wok_reH {Z : Zc} {env : Ev} {σ : L2.St} {w w' : Wd} (k : Wok Z env σ w) (p : plainS env) (hN : w'.N = w.N) (hB : w'.B = w.B) (hm : w'.m = []) (hw : Wf w') : Wok Z env σ w' := by
  refine ⟨hw, k.len, fun i s hs => ?_, fun i j ds es q hij h1 h2 => ?_, ?_⟩
  · obtain ⟨o, h1, h2⟩ := k.sl i s hs
    refine ⟨o, h1, ?_⟩
    rcases p.2 s (List.mem_of_getElem? hs) with rfl | ⟨t, d, rfl⟩
    · exact trivial
    · obtain ⟨v, e, h⟩ := h2
      refine ⟨v, e, ?_⟩
      rw [hN, hB]
      exact h
  · rcases p.2 _ (List.mem_of_getElem? h1) with e | ⟨t, d, e⟩ <;> cases e
  · rw [p.1]
    exact ⟨by rw [hm]; rfl, by rw [hm]; exact List.nodup_nil, fun a h => (by rw [hm] at h; cases h), fun n M h => (by simp at h)⟩
theorem IniAt.gr {w w' : Wd} {a C : Addr} {st : List (Str × V)} (g : Gr w w') (h : IniAt w a C st) : IniAt w' a C st := by
  have nb : ∀ x u, w.B x = none → w.H x = some u → w'.B x = none := fun x u h1 h2 => by
    cases q : w'.B x with
    | none => rfl
    | some o =>
      rcases g.fb x (by rw [q]; exact fun z => nomatch z) with z | z
      · exact absurd h1 z
      · rw [h2] at z; cases z
  rcases h with ⟨h0, ⟨h1, h2⟩ | ⟨dx, h1, h2, h3, h4⟩⟩
  · exact ⟨nb _ _ h0 h2, .inl ⟨h1, g.h _ _ h2⟩⟩
  · exact ⟨nb _ _ h0 h3, .inr ⟨dx, nb _ _ h1 h4, h2, g.h _ _ h3, g.h _ _ h4⟩⟩
section
variable {X : Cx} {cl : Str → Option Addr} {C : Addr} {x n : Str} {e : Expr} {rest : List Stmt} {f : FE} {fs : EI} {p p1 pos : Pos}
theorem ji_nil : PSs X [] (tIn (zx X cl) C []) := by
  refine pss_w pss_nil fun D σ H ⟨env, w, a, sv, sd, out, eH, k, hm, pl, h0, ia, so, _, _, _, ho, q⟩ => ?_
  subst eH
  cases ho
  exact q w sv (Gs.refl k.wf) ia so
theorem ji_cons (he : PE X e (tE (zx X cl) f)) (hr : PSs X rest (tIn (zx X cl) C fs)) (hN : X.N[0]? = some x := by rfl) (hv : Vis X.env.scope x := by first | exact Or.inl rfl | exact Or.inr (Or.inl rfl) | exact Or.inr (Or.inr rfl))
    (hd : (x == ("__debug__" : Str)) = false := by decide) (hcd : (x == ("__classdict__" : Str)) = false := by decide) (hs : swapsWith e (some (.Attribute (.Name x p1) n p)) pos.line X.env = pure false := by rfl) :
    PSs X (.Assign [.Attribute (.Name x p1) n p] e pos :: rest) (tIn (zx X cl) C ((n, f) :: fs)) := by
  refine pss_w (pss_cons (ps_ost (pe_var (i := 0) hN hv hd hcd) he hs) hr) fun D σ H ⟨env, w, a, sv, sd, out, eH, k, hm, pl, h0, ia, so, hl, ox, hf, ho, q⟩ => ?_
  subst eH
  obtain ⟨r, h1, h2⟩ := Option.bind_eq_some_iff.mp ho
  have hN1 : r.1 = .N := by
    by_cases z : r.1 = .N
    · exact z
    · rw [if_neg z] at h2; cases h2
  rw [if_pos hN1] at h2
  obtain ⟨t, d⟩ := r
  have hN1 : t = .N := hN1
  subst hN1
  refine ⟨env, w, (.N, d), rfl, k, h1, fun v w1 g hv => ?_⟩
  have ia1 := ia.gr g
  have hm1 : w1.m = [] := by rw [g.m, hm]
  have sd1 : RpL (zx X cl) w1.N (sv.map (·.2)) (sd.map (·.2)) := RpL.mono g.n so.2
  refine ⟨_, h0, a, C, rfl, ox, hf n f List.mem_cons_self, ?_⟩
  have fin : ∀ (H2 : Hp) (sv2 : List (Str × V)) (dx : Addr), (∀ b o, w1.B b = some o → H2 b = some o) → w1.B dx = none → dx ≠ a → H2 a = some (exo a C (some dx)) → H2 dx = some (exd dx ((n, v) :: sv)) → tIn (zx X cl) C fs D σ H2 := fun H2 sv2 dx b1 b2 b3 b4 b5 => by
    have wf2 : Wf ⟨w1.N, w1.B, H2, []⟩ := ⟨g.wf.nb, b1⟩
    have k2 := wok_reH (w' := ⟨w1.N, w1.B, H2, []⟩) (k.mono g) pl rfl rfl rfl wf2
    refine ⟨env, ⟨w1.N, w1.B, H2, []⟩, a, (n, v) :: sv, (n, d) :: sd, out, rfl, k2, rfl, pl, h0, ⟨ia1.1, .inr ⟨dx, b2, b3, b4, b5⟩⟩, ⟨by simp [so.1], .cons hv sd1⟩, by simp at hl ⊢; omega, ox, fun n' f' h => hf n' f' (List.mem_cons_of_mem _ h), h2, fun w' sv' g' i' s' => q w' sv' ?_ i' s'⟩
    have gs1 : Gs w w1 := Gr.gs k.wf g
    have gs2 : Gs w1 ⟨w1.N, w1.B, H2, []⟩ := ⟨wf2, .refl _, .refl _, fun _ z => .inl z, by rw [hm1]; exact List.prefix_refl _, fun b z => (by cases z)⟩
    exact (gs1.trans gs2).trans g'
  have nbx : ∀ {b : Addr} {o : HO}, w1.B b = some o → b ≠ a := fun {b o} z e => by rw [e, ia1.1] at z; cases z
  rcases ia1.2 with ⟨rfl, h3⟩ | ⟨dx, h3, h4, h5, h6⟩
  · refine .inl ⟨h3, fun dx z1 z2 => ?_⟩
    have nb : w1.B dx = none := by
      cases z : w1.B dx with
      | none => rfl
      | some o => rw [g.wf.bh _ _ z] at z1; cases z1
    refine fin _ [] dx (fun b o z => ?_) nb z2 upd_same (by rw [upd_ne z2, upd_same])
    rw [upd_ne (nbx z), upd_ne (fun e => by rw [e, nb] at z; cases z)]
    exact g.wf.bh _ _ z
  · refine .inr ⟨dx, sv, h5, h6, ?_, ?_⟩
    · have := congrArg List.length so.1
      simp at this hl
      omega
    · refine fin _ [] dx (fun b o z => ?_) h3 h4 (by rw [upd_ne (Ne.symm h4)]; exact h5) upd_same
      rw [upd_ne (fun e => by rw [e, h3] at z; cases z)]
      exact g.wf.bh _ _ z
/-- what such an __init__ stores, by its parameters -/
def spI (Z : Zc) (C : Addr) (g : List D → Option (List (Str × D))) : Sp := fun vs H Q E => ∃ (N B : Hp) (a : Addr) (us : List V) (ds : List D) (out : List (Str × D)), vs = .ref a :: us ∧ B a = none ∧ H = upd B a (exo a C none) ∧ Same N B ∧ RpL Z N us ds ∧ OexC Z.K C ∧ g ds = some out ∧
  ∀ w' sv', Gs ⟨N, B, upd B a (exo a C none), []⟩ w' → IniAt w' a C sv' → StOk Z w' sv' out → Q .non w'.H
end
section
variable {P : Program} {w : World} {K : PySem.W.Frag} {mg : Str → Option Value} {base : Heap} {cl : Str → Option Addr}
theorem ok_ini {x qual : Str} {st : Stmt} {f : Addr} {fd : FuncData} {N ps : List Str} {k : Nat} {C : Addr} {g : List D → Option (List (Str × D))} {fs : EI} (F : Fun K x qual st f fd) (S : FnScope N ps (defScope st)) (har : ∀ ds r, g ds = some r → ds.length + 1 = ps.length)
    (hb : ∀ (cdv : Value) (A : Around) (outer : List Env) (s : Shared) (H : Hp) (E : XK), Room k (A.deeper (PyProof.Rows.envOfC qual (defScope st) s.heap.objs.size f cdv)) → XS (cxOf (L2N.CX P w) P w K mg base N qual (defScope st) f cdv A outer s H E) →
      PSs (cxOf (L2N.CX P w) P w K mg base N qual (defScope st) f cdv A outer s H E) (defBody st) (tIn ⟨K, cl⟩ C fs)) (hfs : fs.length ≤ 900) (hno : ∀ n f, (n, f) ∈ fs → PySem.W.findIn K (.ref C) n = some none)
    (hsem : ∀ ds r, g ds = some r → evI fs ⟨.un :: (ds.map fun d => .val .N d) ++ List.replicate (N.length - (ds.length + 1)) .un, []⟩ [] = some r) : FnOk P w K mg base (L2N.CX P w) (k + 1) f fd ps (spI ⟨K, cl⟩ C g) := by
  refine okXN F S (fun vs H Q E h => ?_) (fun cdv A outer s H vs Q E hr h => ?_)
  · obtain ⟨N, B, a, us, ds, out, rfl, _, _, _, h1, _, h2, _⟩ := h
    have := har _ _ h2
    rw [List.length_cons, h1.length, this]
  · obtain ⟨N0, B, a, us, ds, out, rfl, h0, rfl, hs, h1, ox, h2, q⟩ := h
    have hX : XS (cxOf (L2N.CX P w) P w K mg base N qual (defScope st) f cdv A outer s (upd B a (exo a C none)) E) := ⟨rfl, S.nd, by have := hr.un; show (A.deeper _).units + 65 < cLine; omega⟩
    refine ⟨_, hb cdv A outer s _ E hr hX, ?_⟩
    refine ⟨⟨.un :: (ds.map fun d => .val .N d) ++ List.replicate (N.length - (ds.length + 1)) .un, []⟩, ⟨N0, B, upd B a (exo a C none), []⟩, a, [], [], out, rfl, ?_, rfl, ?_, ?_, ⟨h0, .inl ⟨rfl, upd_same⟩⟩, ⟨rfl, .nil⟩, by simpa using hfs, ox, hno, hsem _ _ h2, ?_⟩
    · have hus : us.length = ds.length := h1.length
      have hle : ds.length + 1 ≤ N.length := by
        have e := congrArg List.length S.pre
        rw [List.length_take] at e
        have := har _ _ h2
        omega
      have hlen : (L2.start N (V.ref a :: us)).length = N.length := by
        unfold L2.start
        simp only [List.length_append, List.length_map, List.length_replicate, List.length_cons]
        omega
      have hB : ∀ b o, B b = some o → upd B a (exo a C none) b = some o := fun b o z => by rw [upd_ne (fun e => by rw [e, h0] at z; cases z)]; exact z
      refine ⟨⟨hs, hB⟩, ?_, fun i s e => ?_, fun i j ds' es p hne e1 e2 e3 => ?_, ⟨rfl, List.nodup_nil, fun a h => (by cases h), fun n M h => (by simp at h)⟩⟩
      · rw [hlen]
        simp only [List.length_append, List.length_map, List.length_replicate, List.length_cons]
        omega
      · have hi : i < N.length := by
          have := (List.getElem?_eq_some_iff.mp e).1
          simp only [List.length_append, List.length_map, List.length_replicate, List.length_cons] at this
          omega
        cases i with
        | zero =>
          cases e
          exact ⟨_, rfl, trivial⟩
        | succ i =>
          by_cases hd : i < ds.length
          · have e' : (ds.map fun d => Sl.val .N d)[i]? = some s := by
              rw [← List.getElem?_append_left (l₂ := List.replicate (N.length - (ds.length + 1)) .un) (by simpa using hd)]
              simpa using e
            rw [List.getElem?_map] at e'
            obtain ⟨d, hd1, rfl⟩ := Option.map_eq_some_iff.mp e'
            obtain ⟨v, hv1, hv2⟩ := RpL.get h1 hd1
            refine ⟨some v, ?_, v, rfl, .inl ⟨rfl, hv2⟩⟩
            unfold L2.start
            rw [List.getElem?_append_left (by simp; omega)]
            simp [hv1]
          · have e' : (List.replicate (N.length - (ds.length + 1)) Sl.un)[i - ds.length]? = some s := by
              have : (ds.map fun d => Sl.val .N d).length ≤ i := by simp; omega
              rw [show i - ds.length = i - (ds.map fun d => Sl.val Tg.N d).length by simp, ← List.getElem?_append_right this]
              simpa using e
            have := List.eq_of_mem_replicate (List.mem_of_getElem? e')
            subst this
            exact ⟨(L2.start N (V.ref a :: us))[i + 1], List.getElem?_eq_getElem (by rw [hlen]; exact hi), trivial⟩
      · have := List.mem_of_getElem? e1
        simp at this
    · refine ⟨rfl, fun s hs' => ?_⟩
      rcases List.mem_append.mp hs' with z | z
      · rcases List.mem_cons.mp z with z | z
        · exact .inl z
        · obtain ⟨d, _, rfl⟩ := List.mem_map.mp z
          exact .inr ⟨_, _, rfl⟩
      · exact .inl (List.eq_of_mem_replicate z)
    · rfl
    · exact fun w' sv' g' i' s' => q w' sv' g' i' s'
end
end Vf
namespace Vf
open PySem L2
/-! ### raise C(e, ..), C with its own __init__ -/
def zRaise (c : Str) (g : List D → Option (List (Str × D))) (fa : FXA) : SX := fun env => bS env (fa env) fun xs T => if xs.length ≤ 1000 then (pures xs).bind fun ds => (g ds).bind fun out => if out.isEmpty then none else some (.ex c (out.map (·.1)) (out.map fun q => .pu q.2) ⟨env.s, T⟩) else none
theorem pures_rpN {Z : Zc} {w : Wd} : ∀ {xs : List HV} {ds : List D} {vs : List V}, pures xs = some ds → HvsOk Z w vs xs → RpL Z w.N vs ds
  | [], _, [], h, _ => by cases h; exact .nil
  | .pu d :: xs, _, v :: vs, h, ⟨hv, hr⟩ => by
    obtain ⟨ds, h1, rfl⟩ := Option.map_eq_some_iff.mp h
    exact .cons hv (pures_rpN h1 hr)
  | .ob _ :: _, _, _, h, _ => by cases h
  | [], _, _ :: _, _, h => h.elim
  | .pu _ :: _, _, [], _, h => h.elim
theorem rp_hvs {Z : Zc} {w : Wd} : ∀ {vs : List V} {out : List (Str × D)}, RpL Z w.N vs (out.map (·.2)) → HvsOk Z w vs (out.map fun q => .pu q.2)
  | [], [], _ => trivial
  | _ :: _, _ :: _, .cons h r => ⟨h, rp_hvs r⟩
theorem zip_unz {α β : Type} : ∀ (l : List (α × β)), (l.map (·.1)).zip (l.map (·.2)) = l
  | [] => rfl
  | (a, b) :: l => by simp [zip_unz l]
section
variable {X : Cx} {cl : Str → Option Addr} {W : WX} {x c : Str} {C fI : Addr} {k : Nat} {fd : FuncData} {ps : List Str} {g : List D → Option (List (Str × D))} {e : Expr} {es : List Expr} {fa : FXA} {p pos pos' : Pos}
theorem jz_raise (hc : X.calm = true) (tk : L2N.Takes X W) (hcl : cl c = some C) (O : OexC X.K C) (iC : PySem.W.findIn X.K (.ref C) "__init__" = some (some (.ref fI))) (tI : PySem.W.typeIn X.K (.ref fI) = some (.type "function"))
    (F1 : FnOk X.prog X.w X.K X.mg X.base (L2N.CX X.prog X.w) k fI fd ps (spI (zx X cl) C g)) (hr : Room (k + 1) X.A) (hb : Binds X.K fd ps []) (hg : Gl X x) (hm : X.mg x = some (.ref C)) (ha : PA X (e :: es) (tXA (zx X cl) W fa))
    (hdb : (x == ("__debug__" : Str)) = false := by decide) (he : starEach (e :: es) X.env = (false, eval e X.env) :: starEach es X.env := by rfl) (hpl : (backTo pos (starEach es X.env)).any (·.1) = false := by rfl) :
    PS X (.Raise (some (.Call (.Name x p) (e :: es) [] pos)) none pos') (tSX (zx X cl) W (zRaise c g fa)) := by
  have hx : Passes (L2N.CX X.prog X.w) X (fun _ _ _ => False) := fun pins σ H s e s' _ h => by
    obtain ⟨_, _, _, _, _, _, _, _, _, _, _, _, z⟩ := h
    exact z.elim
  refine ps_w (L2N.ps_raise hc tk (pmkN_oex O iC tI F1 hr hb .nil hx hg hm ha hdb he hpl)) fun G σ H ⟨env, w, out, eH, kk, h, q⟩ => ?_
  subst eH
  obtain ⟨r, h1, h2⟩ := bS_fin (P := fun xs T => PaX (zx X cl) env.s σ w (fun vs H1 => vs.length ≤ 1000 ∧ ∀ a, H1 a = none → spI (zx X cl) C g (.ref a :: (vs ++ [])) (upd H1 a (exo a C none)) (fun v H2 => v = .non ∧ ∃ (d : Addr) (fs : List (Str × V)), H2 a = some (exo a C (some d)) ∧ H2 d = some (exd d fs) ∧ H1 d = none ∧ W (.ref C) (some d) σ (upd (del H2 a) d (.xd fs))) (fun _ _ _ => False)) xs T) h q fun xs T hk vs w1 gs k1 hv => by
    have hk : (if xs.length ≤ 1000 then (pures xs).bind fun ds => (g ds).bind fun out => if out.isEmpty then none else some (OutX.ex c (out.map (·.1)) (out.map fun q => .pu q.2) ⟨env.s, T⟩) else none) = some out := hk
    by_cases hlen : xs.length ≤ 1000
    · rw [if_pos hlen] at hk
      obtain ⟨ds, e1, hk⟩ := Option.bind_eq_some_iff.mp hk
      obtain ⟨o, e2, hk⟩ := Option.bind_eq_some_iff.mp hk
      by_cases hemp : o.isEmpty = true
      · rw [if_pos hemp] at hk; cases hk
      rw [if_neg hemp] at hk
      cases hk
      refine ⟨by rw [hv.length]; exact hlen, fun a na => ⟨w1.N, w1.H, a, vs, ds, o, by rw [List.append_nil], na, rfl, k1.wf.nh, pures_rpN e1 hv, O, e2, fun w' sv' g' ia so => ⟨rfl, ?_⟩⟩⟩
      have hne : sv' ≠ [] := fun z => by
        have := so.1
        rw [z] at this
        cases o with
        | nil => exact hemp rfl
        | cons _ _ => cases this
      rcases ia with ⟨a0, ⟨z, _⟩ | ⟨dx, d0, dne, ea, ed⟩⟩
      · exact absurd z hne
      have HB : ∀ b u, w1.H b = some u → w'.B b = some u := fun b u z => g'.b b u z
      have hd1 : w1.H dx = none := by
        cases z : w1.H dx with
        | none => rfl
        | some u => rw [HB _ _ z] at d0; cases d0
      refine ⟨dx, sv', ea, ed, hd1, ?_⟩
      let B2 : Hp := fun b => match w1.B b with | some u => some u | none => w'.N b
      have B2a : ∀ b u, w1.B b = some u → B2 b = some u := fun b u z => by show (match w1.B b with | some u => some u | none => w'.N b) = _; rw [z]
      have B2b : ∀ b, w1.B b = none → B2 b = w'.N b := fun b z => by show (match w1.B b with | some u => some u | none => w'.N b) = _; rw [z]
      have put : ∀ b u, w'.B b = some u → upd (del w'.H a) dx (.xd sv') b = some u := fun b u z => by
        rw [upd_ne (fun e => by rw [e, d0] at z; cases z), del_ne (fun e => by rw [e, a0] at z; cases z)]
        exact g'.wf.bh _ _ z
      have wf2 : Wf ⟨w'.N, B2, upd (del w'.H a) dx (.xd sv'), w1.m⟩ := by
        refine ⟨fun b u z => ?_, fun b u z => ?_⟩
        · cases y : w1.B b with
          | none => exact (B2b b y).trans z
          | some u' =>
            have y1 := HB b u' (k1.wf.bh _ _ y)
            have y2 := g'.wf.nb b u z
            rw [y1] at y2
            cases y2
            exact B2a b u y
        · cases y : w1.B b with
          | some u' =>
            have z : B2 b = some u := z
            rw [B2a b u' y] at z
            cases z
            exact put b u (HB b u (k1.wf.bh _ _ y))
          | none =>
            have z : B2 b = some u := z
            rw [B2b b y] at z
            exact put b u (g'.wf.nb b u z)
      have fnx : ∀ b, w'.N b ≠ none → w1.N b ≠ none ∨ w1.H b = none := fun b z => g'.fn b z
      have gr : Gr w1 ⟨w'.N, B2, upd (del w'.H a) dx (.xd sv'), w1.m⟩ := by
        refine ⟨wf2, g'.n, fun b u z => B2a b u z, fun b u z => put b u (HB b u z), fnx, fun b z => ?_, rfl⟩
        cases y : w1.B b with
        | some u' => exact .inl (fun z => nomatch z)
        | none =>
          have z : B2 b ≠ none := z
          rw [B2b b y] at z
          rcases fnx b z with q1 | q1
          · cases y2 : w1.N b with
            | none => exact absurd y2 q1
            | some u' => rw [k1.wf.nb _ _ y2] at y; cases y
          · exact .inr q1
      have q : ∀ cls d σ' w2, Gs w w2 → Wok (zx X cl) ⟨env.s, _⟩ σ' w2 → ExOk (zx X cl) w2 cls d c (o.map (·.1)) (o.map fun q => .pu q.2) → W cls d σ' w2.H := q
      refine q (.ref C) (some dx) σ ⟨w'.N, B2, upd (del w'.H a) dx (.xd sv'), w1.m⟩ (gs.trans (Gr.gs k1.wf gr)) (k1.mono gr) ⟨C, hcl, rfl, .inr ⟨dx, sv'.map (·.2), rfl, ?_, ?_, rp_hvs so.2⟩⟩
      · show upd (del w'.H a) dx (.xd sv') dx = _
        rw [upd_same, ← so.1, zip_unz]
      · have := congrArg List.length so.1
        simpa using this
    · rw [if_neg hlen] at hk
      cases hk
  exact ⟨env, w, r, rfl, kk, h1, h2⟩
/-- a class of errors, as the generator hands it on -/
structure RaX (P : Program) (w : World) (K : PySem.W.Frag) (mg : Str → Option Value) (base : Heap) (cl : Str → Option Addr) (k : Nat) (c : Str) (ps : List Str) (g : List D → Option (List (Str × D))) : Prop where
  ex : ∃ C f fd, OexC K C ∧ PySem.W.findIn K (.ref C) "__init__" = some (some (.ref f)) ∧ PySem.W.typeIn K (.ref f) = some (.type "function") ∧ FnOk P w K mg base (L2N.CX P w) k f fd ps (spI ⟨K, cl⟩ C g) ∧ mg c = some (.ref C) ∧ cl c = some C ∧ Binds K fd ps []
theorem jz_raiseX {j : Nat} (M : RaX X.prog X.w X.K X.mg X.base cl k c ps g) (hX : XS X) (tk : L2N.Takes X W) (hr : Room j X.A) (ha : PA X (e :: es) (tXA (zx X cl) W fa)) (hkj : k + 1 ≤ j := by decide) (hg : Gl X c := by rfl) (hdb : (c == ("__debug__" : Str)) = false := by decide)
    (he : starEach (e :: es) X.env = (false, eval e X.env) :: starEach es X.env := by rfl) (hpl : (backTo pos (starEach es X.env)).any (·.1) = false := by rfl) :
    PS X (.Raise (some (.Call (.Name c p) (e :: es) [] pos)) none pos') (tSX (zx X cl) W (zRaise c g fa)) := by
  obtain ⟨C, f, fd, O, iC, tI, F, hm, hcl, hb⟩ := M.ex
  exact jz_raise hX.calm tk hcl O iC tI F (hr.mono hkj) hb hg hm ha hdb he hpl
@[simp] theorem zRaise_eq {env : Ev} : zRaise c g fa env = (fa env).bind (kS env.s fun xs T => if xs.length ≤ 1000 then (pures xs).bind fun ds => (g ds).bind fun out => if out.isEmpty then none else some (.ex c (out.map (·.1)) (out.map fun q => .pu q.2) ⟨env.s, T⟩) else none) := rfl
end
end Vf
/-! ### enumerate over a list or a tuple, from any number -/
namespace PySem
open Sem (wp)
open AutoSeq1 (wpAny_loadPart')
end PySem
namespace Vf
open PySem PySem.Spec PyProof.Rows L2
def ItB (tp : Bool) (h : Heap) (it a : Addr) (i : Nat) : Prop := match tp with | true => h.IsTupleIter it a i | false => h.IsListIter it a i
theorem ItB.at {tp : Bool} {h h' : Heap} {it a : Addr} {i : Nat} (x : ItB tp h it a i) (k : ∀ o, h.get? it = some o → h'.get? it = some o) : ItB tp h' it a i := by
  cases tp
  · exact Heap.IsListIter.at x k
  · exact Heap.IsTupleIter.at x k
end Vf
namespace Vf
open PySem L2
/-! ### enumerate, by data -/
def seqD : D → Option (List D)
  | .lst xs => some xs | .scr xs => some xs | .tup xs => some xs | _ => none
def dEn (k0 : Int) (t : Tg) (ds : List D) : List TD := ds.mapIdx fun i d => (t, .tup [.int (k0 + (i : Nat)), d])
/-- in a for: what stays as it is -/
def itEn (k0 : Int) (r : TD) : Option (List TD) := match r.1 with
  | .N => (seqD r.2).map (dEn k0 .N)
  | .B => (seqD r.2).map (dEn k0 .B)
  | _ => none
/-! ### new dicts -/
abbrev FD := Ev → Option (List Key × List D)
end Vf
namespace Vf
open PySem L2
/-! ### {k: v for ..} -/
end Vf
namespace L2
open PySem PySem.Spec PyProof.Rows
end L2
namespace Vf
open PySem L2
end Vf
namespace Vf
open PySem L2
/-! ### dicts of the module -/
end Vf
/-! ### set(xs) of keys of one kind, any number of them; its length -/
namespace Vf
open PySem PySem.Spec PyProof.Rows L2
end Vf
namespace Vf
open PySem PySem.Spec PyProof.Rows L2
/-! ### len(set(e)) -/
end Vf
namespace Vf
open PySem L2
/-! ### comprehensions over trees whose items see the table -/
noncomputable def lcF (ct : FXT) (fe : FX) (s : TD → Ev → Option Ev) (sl : List Sl) : List TD → Tb → Option (List HV × Tb)
  | [], T => some ([], T)
  | y :: ys, T => if okT y.1 then (s y ⟨sl, T⟩).bind fun e => (valX (ct e)).bind fun k => if k.1 then (valX (fe ⟨e.s, k.2⟩)).bind fun v => (lcF ct fe s sl ys v.2).map fun r => (v.1 :: r.1, r.2) else lcF ct fe s sl ys k.2 else none
theorem lcF_len {ct : FXT} {fe : FX} {s : TD → Ev → Option Ev} {sl : List Sl} : ∀ {ys : List TD} {T : Tb} {r : List HV × Tb}, lcF ct fe s sl ys T = some r → r.1.length ≤ ys.length
  | [], T, r, h => by cases h; exact Nat.le_refl _
  | y :: ys, T, r, h => by
    unfold lcF at h
    split at h
    · obtain ⟨e, _, h1⟩ := Option.bind_eq_some_iff.mp h
      obtain ⟨k, _, h2⟩ := Option.bind_eq_some_iff.mp h1
      split at h2
      · obtain ⟨v, _, h3⟩ := Option.bind_eq_some_iff.mp h2
        obtain ⟨r', h4, rfl⟩ := Option.map_eq_some_iff.mp h3
        exact Nat.succ_le_succ (lcF_len h4)
      · exact Nat.le_succ_of_le (lcF_len h2)
    · cases h
theorem rv_lend {Z : Zc} {w : Wd} {D : Addr} {o : HO} (hb : w.B D = none) : ∀ {r : TD} {v : V}, okT r.1 = true → RV Z w r v → RV Z (lend w D o) r v
  | (.N, _), _, _, h => h
  | (.B, _), _, _, h => Rp.mono (same_up1 (.refl _) hb) h
  | (.T, _), _, h, _ => by cases h
  | (.O, _), _, h, _ => by cases h
/-! ### f(*e), C(*e) -/
/-! ### a try whose body raises nothing -/
section
variable {X : Cx} {cl : Str → Option Addr} {W : WX} {A : SX} {body : List Stmt} {h₀ : ExceptHandler} {hs : List ExceptHandler} {pos : Pos} {j : Nat}
theorem XS.nox (h : XS X) : XS X.nox := ⟨h.calm, h.nd, h.hu⟩
end
end Vf
namespace Vf
open PySem L2
/-! ### f-strings -/
/-! ### xs.extend(ys), both in the table -/
end Vf
namespace Vf
open PySem PySem.Spec PyProof.Rows L2
/-! ### list(reversed(xs)) of a tuple -/
/-! ### list(reversed(xs)) of a list -/
end Vf
namespace Vf
open PySem L2
/-! ### isinstance of an own class, == by an own __eq__ -/
def isoX (c : Str) (x : HV) (T : Tb) : Option (XRes HV) := (insOf T x).bind fun q => if q.1 = c then some (.val (.pu (.bl true)) T) else none
def xIso (c : Str) (f : FX) : FX := fun env => bX (f env) (isoX c)
def boolR : XRes HV → Option (XRes HV)
  | .val (.pu (.bl b)) T => some (.val (.pu (.bl b)) T)
  | _ => none
def eqoK (c : Str) (gg : List HV → Tb → Option (XRes HV)) (x y : HV) (T : Tb) : Option (XRes HV) := (insOf T x).bind fun q => (insOf T y).bind fun p => if q.1 = c ∧ p.1 = c then (gg [x, y] T).bind boolR else none
def xEqo (c : Str) (gg : List HV → Tb → Option (XRes HV)) (f g : FX) : FX := fun env => bX (f env) fun x T1 => bX (g ⟨env.s, T1⟩) fun y T2 => eqoK c gg x y T2
section
variable {c : Str} {f g : FX} {gg : List HV → Tb → Option (XRes HV)} {env : Ev}
@[simp] theorem xIso_eq : xIso c f env = (f env).bind (kX (isoX c)) := rfl
@[simp] theorem xEqo_eq : xEqo c gg f g env = (f env).bind (kX fun x T1 => (g ⟨env.s, T1⟩).bind (kX fun y T2 => eqoK c gg x y T2)) := rfl
end
/-! ### list + list, a new list of the table -/
def catM (T : Tb) : HV → Option (List HV)
  | .pu (.lst ds) => some (ds.map .pu)
  | .pu _ => none
  | .ob k => match T[k]? with
    | some (some (.lst xs)) => some xs
    | _ => none
theorem HvsOk.pus {Z : Zc} {w : Wd} : ∀ {vs : List V} {ds : List D}, RpL Z w.N vs ds → HvsOk Z w vs (ds.map .pu)
  | _, _, .nil => trivial
  | _, _, .cons h r => ⟨h, HvsOk.pus r⟩
theorem catM_ok {Z : Zc} {T : Tb} {w : Wd} (hw : Wf w) (t : TbOk Z T w) {v : V} {x : HV} {xs : List HV} (hx : HvOk Z w v x) (h : catM T x = some xs) : ∃ p vs, v = .ref p ∧ w.H p = some (.lst vs) ∧ HvsOk Z w vs xs := by
  cases x with
  | pu d =>
    cases d with
    | lst ds =>
      cases h
      cases hx with
      | lst h1 h2 => exact ⟨_, _, rfl, hw.nh _ _ h1, HvsOk.pus h2⟩
    | _ => cases h
  | ob k =>
    unfold catM at h
    dsimp only at h
    split at h
    · rename_i zs ej
      cases h
      obtain ⟨a, rfl, h1⟩ := hx
      obtain ⟨a', h2, h3, vs, h4, h5⟩ := t.at_ k _ ej
      rw [h1] at h2
      cases h2
      exact ⟨a, vs, rfl, h4, h5⟩
    · cases h
def catK (x y : HV) (T : Tb) : Option (XRes HV) := (catM T x).bind fun xs => (catM T y).bind fun ys => if xs.length + ys.length ≤ lim then some (.val (.ob T.length) (T ++ [some (.lst (xs ++ ys))])) else none
def xCat (f g : FX) : FX := fun env => bX (f env) fun x T1 => bX (g ⟨env.s, T1⟩) fun y T2 => catK x y T2
@[simp] theorem xCat_eq {f g : FX} {env : Ev} : xCat f g env = (f env).bind (kX fun x T1 => (g ⟨env.s, T1⟩).bind (kX fun y T2 => catK x y T2)) := rfl
theorem HvsOk.cat {Z : Zc} {w : Wd} : ∀ {vs us : List V} {xs ys : List HV}, HvsOk Z w vs xs → HvsOk Z w us ys → HvsOk Z w (vs ++ us) (xs ++ ys)
  | [], _, [], _, _, s => s
  | _ :: _, _, _ :: _, _, ⟨h, r⟩, s => ⟨h, HvsOk.cat r s⟩
  | [], _, _ :: _, _, h, _ => h.elim
  | _ :: _, _, [], _, h, _ => h.elim
theorem jx_cat {X : Cx} {cl : Str → Option Addr} {W : WX} {a b : Expr} {f g : FX} {pos : Pos} (ha : PE X a (tX (zx X cl) W f)) (hb : PE X b (tX (zx X cl) W g)) : PE X (.BinOp a .Add b pos) (tX (zx X cl) W (xCat f g)) := by
  refine pe_w (pe_op op_cat ha hb) fun σ H Q ⟨env, w, r, e, k, h, q⟩ => ?_
  subst e
  show tX (zx X cl) W f σ w.H _
  refine tX_bind k h q.late fun x T1 v w1 h1 g1 k1 hx => ?_
  refine tX_bind k1 h1 (q.late.mono g1) fun y T2 u w2 h2 g2 k2 hy => ?_
  unfold catK at h2
  obtain ⟨xs, h3, h2⟩ := Option.bind_eq_some_iff.mp h2
  obtain ⟨ys, h4, h2⟩ := Option.bind_eq_some_iff.mp h2
  split at h2
  · rename_i hl
    cases h2
    obtain ⟨pa, vs, rfl, e1, e2⟩ := catM_ok k2.wf k2.tb (hx.mono g2.n g2.m) h3
    obtain ⟨pb, us, rfl, e3, e4⟩ := catM_ok k2.wf k2.tb hy h4
    have hn := e2.cat e4
    refine ⟨pa, pb, vs, us, rfl, rfl, e1, e3, lim_le (by rw [e2.length, e4.length]; exact hl), fun np hnp => ?_⟩
    obtain ⟨w3, e5, g3, k3, hx3⟩ := new_ok k2 (o := .lst (vs ++ us)) (M := .lst (xs ++ ys)) hnp ⟨vs ++ us, upd_same, HvsOk.mono (w := w2) (w' := ⟨w2.N, w2.B, upd w2.H np (.lst (vs ++ us)), w2.m⟩) (.refl _) (List.prefix_refl _) hn⟩
    rw [← e5]
    exact q _ w3 ((g1.trans g2).trans g3) k3 hx3
  · cases h2
end Vf
namespace Vf
open PySem L2
/-! ### for over a range of what the table tells -/
abbrev FIX := Ev → Option (XRes (List TD))
def PrX (Z : Zc) (s : List Sl) (σ : L2.St) (w : Wd) (R : It → Hp → Prop) (items : List TD) (T : Tb) : Prop := ∀ J w', Gs w w' → Wok Z ⟨s, T⟩ σ w' → Wk Gs Z J w' items → R J w'.H
def tIX (Z : Zc) (W : WX) (fi : FIX) : TI := fun σ H R => ∃ env w r, w.H = H ∧ Wok Z env σ w ∧ fi env = some r ∧ Fin Z W env.s σ w (PrX Z env.s σ w R) r
noncomputable def r1X (x : HV) (T : Tb) : Option (XRes (List TD)) := match x with | .pu d => (r1K (.N, d)).map fun is => .val is T | _ => none
noncomputable def xR1 (f : FX) : FIX := fun env => bX (f env) r1X
noncomputable def r2X (x y : HV) (T : Tb) : Option (XRes (List TD)) := match x, y with | .pu d, .pu e => (r2K (.N, d) (.N, e)).map fun is => .val is T | _, _ => none
noncomputable def xR2 (f g : FX) : FIX := fun env => bX (f env) fun x T1 => bX (g ⟨env.s, T1⟩) fun y T2 => r2X x y T2
def zForX (fi : FIX) (s : TD → Ev → Option Ev) (A : SX) : SX := fun env => bS env (fi env) fun items T => forZ A s items ⟨env.s, T⟩
@[simp] theorem zForX_eq {fi : FIX} {s : TD → Ev → Option Ev} {A : SX} {env : Ev} : zForX fi s A env = (fi env).bind (kS env.s fun items T => forZ A s items ⟨env.s, T⟩) := rfl
@[simp] theorem xR1_eq {f : FX} {env : Ev} : xR1 f env = (f env).bind (kX r1X) := rfl
@[simp] theorem xR2_eq {f g : FX} {env : Ev} : xR2 f g env = (f env).bind (kX fun x T1 => (g ⟨env.s, T1⟩).bind (kX fun y T2 => r2X x y T2)) := rfl
@[simp] theorem r1X_pu {d : D} {T : Tb} : r1X (.pu d) T = (r1K (.N, d)).map fun is => .val is T := rfl
@[simp] theorem r2X_pu {d e : D} {T : Tb} : r2X (.pu d) (.pu e) T = (r2K (.N, d) (.N, e)).map fun is => .val is T := rfl
section
variable {X : Cx} {cl : Str → Option Addr} {W : WX} {a b tg iter : Expr} {f g : FX} {fi : FIX} {p pos : Pos} {body : List Stmt} {A : SX} {is : List Nat} {s : TD → Ev → Option Ev}
theorem jix_range1 (hm : X.mg "range" = none) (ha : PE X a (tX (zx X cl) W f)) (hg : Gl X "range" := by rfl) (hs : starEach [a] X.env = [(false, eval a X.env)] := by rfl) : PI X tg (.Call (.Name "range" p) [a] [] pos) (tIX (zx X cl) W (xR1 f)) := by
  refine pi_w (pi_range1 hg hm (jxa_cons ha jxa_nil hs) (hs := hs)) fun σ H R ⟨env, w, r, e, k, hr, q⟩ => ?_
  subst e
  obtain ⟨o, h1, h2⟩ := Option.bind_eq_some_iff.mp hr
  cases o with
  | exc c ns xs T =>
    cases h2
    refine ⟨env, w, .exc c ns xs T, rfl, k, ?_, q⟩
    unfold xCons bX
    rw [h1]
    rfl
  | val x T =>
    refine ⟨env, w, .val [x] T, rfl, k, ?_, ?_⟩
    · unfold xCons bX
      rw [h1]
      rfl
    · have h2 : r1X x T = some r := h2
      unfold r1X at h2
      split at h2
      · rename_i d
        obtain ⟨items, h3, rfl⟩ := Option.map_eq_some_iff.mp h2
        unfold r1K at h3
        dsimp only at h3
        split at h3
        · unfold cif at h3
          split at h3
          · rename_i j hj
            cases h3
            intro vs w1 g1 k1 hv
            match vs, hv with
            | [v], ⟨hv, _⟩ =>
              have e : v = .int j := by cases hv; rfl
              exact ⟨j, by rw [e], by omega, by omega, q _ w1 g1 k1 (wk_rng gwf_s _ _)⟩
          · cases h3
        · cases h3
      · cases h2
theorem jz_forX (hp : PassesOwn (model X.prog X.w) X.A X.env X.xe) (hX : XS X) (hi : PI X tg iter (tIX (zx X cl) W fi)) (hg : PG X tg (tG (zx X cl) is s)) (hb : PSs X body (tSX (zx X cl) W A)) (hs : ∀ x, foldedSetIterable iter X.env x = pure x := by intro _; rfl) :
    PS X (.For tg iter body [] pos) (tSX (zx X cl) W (zForX fi s A)) := by
  refine ps_w (ps_for hp hX.calm hi hg hb hs) fun D σ H ⟨env, w, out, e, k, hr, q⟩ => ?_
  subst e
  have hrq := hr
  obtain ⟨r, h3, hf3⟩ := bS_fin (P := fun items T => forZ A s items ⟨env.s, T⟩ = some out) hr q (fun x T h => h)
  refine ⟨env, w, r, rfl, k, h3, ?_⟩
  cases r with
  | exc c ns xs T => exact hf3
  | val items T =>
    have h4 : forZ A s items ⟨env.s, T⟩ = some out := hf3
    intro J w1 g1 k1 wk
    refine ⟨fun i m σ' H' => ∃ env' w', w'.H = H' ∧ Wok (zx X cl) env' σ' w' ∧ Gs w1 w' ∧ m = items.length - i ∧ i ≤ items.length ∧ forZ A s (items.drop i) env' = some out, ⟨items.length, ⟨env.s, T⟩, w1, rfl, k1, Gs.refl g1.wf, rfl, Nat.zero_le _, h4⟩, ?_⟩
    rintro i m σ' H' ⟨env', w', rfl, k', gs, rfl, hi, hf⟩
    by_cases hlt : i < items.length
    · obtain ⟨r, hr⟩ : ∃ r, items[i]? = some r := ⟨items[i], List.getElem?_eq_getElem hlt⟩
      have hd : items.drop i = r :: items.drop (i + 1) := by
        rw [List.drop_eq_getElem_cons hlt]
        rw [List.getElem?_eq_getElem hlt] at hr
        rw [Option.some.inj hr]
      rw [hd] at hf
      obtain ⟨e1, h5, h6⟩ := Option.bind_eq_some_iff.mp hf
      obtain ⟨o, h7, h8⟩ := Option.bind_eq_some_iff.mp h6
      obtain ⟨go, yl⟩ := wk.go i r w' gs hr
      refine .inr ⟨go, fun σ2 H2 => ∃ m', m' < items.length - i ∧ ∃ env' w', w'.H = H2 ∧ Wok (zx X cl) env' σ2 w' ∧ Gs w1 w' ∧ m' = items.length - (i + 1) ∧ i + 1 ≤ items.length ∧ forZ A s (items.drop (i + 1)) env' = some out, fun _ _ z => z, fun x H2 hy => ?_⟩
      obtain ⟨w2, g2, rfl, r2⟩ := yl x H2 hy
      refine ⟨env', w2, r, e1, rfl, k'.mono g2, r2, h5, fun σ3 w3 g3 k3 _ _ => ⟨e1, w3, o, rfl, k3, h7, ?_⟩⟩
      have g23 : Gs w' w3 := (g2.trans g3).gs k'.wf
      cases o with
      | nx e' => exact fun σ4 w4 g4 k4 => ⟨_, by omega, e', w4, rfl, k4, (gs.trans g23).trans g4, rfl, hlt, h8⟩
      | ct e' => exact fun σ4 w4 g4 k4 => ⟨_, by omega, e', w4, rfl, k4, (gs.trans g23).trans g4, rfl, hlt, h8⟩
      | bk e' =>
        cases h8
        exact fun σ4 w4 g4 k4 => q σ4 w4 (((g1.trans gs).trans g23).trans g4) k4
      | rt x T =>
        cases h8
        exact fun v w4 g4 r4 t4 => q v w4 (((g1.trans gs).trans g23).trans g4) r4 t4
      | ex c ns xs e =>
        cases h8
        exact fun cls d σ4 w4 g4 k4 e4 => q cls d σ4 w4 (((g1.trans gs).trans g23).trans g4) k4 e4
    · have e : i = items.length := by omega
      subst e
      refine .inl ⟨wk.stop w' gs, ?_⟩
      rw [List.drop_length] at hf
      cases hf
      exact q σ' w' (g1.trans gs) k'
end
end Vf
namespace Vf
open PySem L2
/-! ### slices of what the table holds -/
def cutH (xs : List HV) (lo hi : Option Int) : List HV := (xs.drop (HT.sIx xs.length 0 lo)).take (HT.sIx xs.length xs.length hi - HT.sIx xs.length 0 lo)
def slX (x : HV) (T : Tb) (lo hi : Option Int) : Option (XRes HV) := match x with
  | .pu d => (slD (.N, d) lo hi).bind fun r => resX r T
  | .ob k => match T[k]? with
    | some (some (.lst xs)) => some (.val (.ob T.length) (T ++ [some (.lst (cutH xs lo hi))]))
    | _ => none
def xSlc (f : FX) (l u : FO) : FX := fun env => bX (f env) fun x T => (l ⟨env.s, T⟩).bind fun lo => (u ⟨env.s, T⟩).bind fun hi => slX x T lo hi
@[simp] theorem xSlc_eq {f : FX} {l u : FO} {env : Ev} : xSlc f l u env = (f env).bind (kX fun x T => (l ⟨env.s, T⟩).bind fun lo => (u ⟨env.s, T⟩).bind fun hi => slX x T lo hi) := rfl
@[simp] theorem slX_pu {d : D} {T : Tb} {lo hi : Option Int} : slX (.pu d) T lo hi = (slD (.N, d) lo hi).bind fun r => resX r T := rfl
end Vf
namespace Vf
open PySem L2
/-! ### comprehensions over a range of what the table tells -/
theorem tIX_bind {β : Type} {Z : Zc} {W : WX} {env : Ev} {σ : L2.St} {w : Wd} {fi : FIX} {kk : List TD → Tb → Option (XRes β)} {q : XRes β} {R : It → Hp → Prop} (k : Wok Z env σ w) (h : bX (fi env) kk = some q) (l : Late Z W env.s σ w q)
    (hq : ∀ items T J w1, kk items T = some q → Gs w w1 → Wok Z ⟨env.s, T⟩ σ w1 → Wk Gs Z J w1 items → R J w1.H) : tIX Z W fi σ w.H R := by
  obtain ⟨r, h1, h2⟩ := bX_fin (P := PrX Z env.s σ w R) h l fun items T hk J w1 g k1 wk => hq items T J w1 hk g k1 wk
  exact ⟨env, w, r, rfl, k, h1, h2⟩
noncomputable def xLcR (fi : FIX) (s : TD → Ev → Option Ev) (ct : FXT) (fe : FX) (vs : List Nat) : FX := fun env => if ownFree env.s then bX (fi env) fun items T => if items.length ≤ lim then (lcF ct fe s (wipeE ⟨env.s, T⟩ vs).s items T).map fun r => .val (.ob r.2.length) (r.2 ++ [some (.lst r.1)]) else none else none
@[simp] theorem xLcR_eq {fi : FIX} {s : TD → Ev → Option Ev} {ct : FXT} {fe : FX} {vs : List Nat} {l : List Sl} {T0 : Tb} : xLcR fi s ct fe vs ⟨l, T0⟩ = if ownFree l then (fi ⟨l, T0⟩).bind (kX fun items T => if items.length ≤ lim then (lcF ct fe s (wipeE ⟨l, T⟩ vs).s items T).map fun r => .val (.ob r.2.length) (r.2 ++ [some (.lst r.1)]) else none) else none := rfl
section
variable {X : Cx} {cl : Str → Option Addr} {W : WX} {tg iter elt : Expr} {ifs : List Expr} {g : FX} {pos : Pos} {is : List Nat} {s : TD → Ev → Option Ev} {ct : FXT} {scope : Scope} {fi : FIX}
theorem lcR_rd {vs : List Nat} (hsub : is.all (fun i => vs.contains i) = true) {σ : L2.St} {H : Hp} {Q : VK} (hh : tX (zx X cl) W (xLcR fi s ct g vs) σ H Q) :
    tLc (tIX (zx X cl) W fi) (tG (zx X cl) is s) (tXT (zx X cl) W0 ct) (tX (zx X cl) W0 g) vs σ H Q := by
  obtain ⟨env, w, r, e, k, hr, q⟩ := hh
  subst e
  obtain ⟨es, et⟩ := env
  unfold xLcR at hr
  split at hr
  · rename_i hof
    unfold tLc
    refine tIX_bind k hr q.late fun items et J w1 h4 g1 k1 wk D hD => ?_
    dsimp only at h4 k1
    split at h4
    · rename_i hlen
      obtain ⟨⟨res, T9⟩, h5, h6⟩ := Option.map_eq_some_iff.mp h4
      subst h6
      have kw : Wok (zx X cl) ⟨(wipeE ⟨es, et⟩ vs).s, et⟩ (wipe σ vs) w1 := by
        have h9 := wok_wipe k1 vs
        have ht := wipeE_t ⟨es, et⟩ vs
        cases q : wipeE ⟨es, et⟩ vs with
        | mk a b => rw [q] at ht h9; cases ht; exact h9
      have no := own_wipe (T := et) (ownFree_no hof) vs
      generalize (wipeE ⟨es, et⟩ vs).s = sl at h5 kw no
      have hDm : D ∉ w1.m := fun z => k1.tb.hh D z hD
      have gp : Gr w1 (w1.put .T D (.lst [])) := Gr.put k1.wf hD
      have hlcl := lcF_len h5
      dsimp only at hlcl
      let Inv9 : Nat → Nat → Hp → Prop := fun i m H' => ∃ (w' : Wd) (T' : Tb) (acc : List V) (hacc : List HV) (rem : List HV × Tb), w'.H = H' ∧ Gs w1 w' ∧ TbOk (zx X cl) T' w' ∧ w'.H D = some (.lst acc) ∧ w'.B D = none ∧ D ∉ w'.m ∧ HvsOk (zx X cl) w' acc hacc ∧ m = items.length - i ∧ i ≤ items.length ∧ lcF ct g s sl (items.drop i) T' = some rem ∧ hacc ++ rem.1 = res ∧ rem.2 = T9
      refine ⟨Inv9, ⟨items.length, w1.put .T D (.lst []), et, [], [], _, put_H, gp.gs k1.wf, k1.tb.mono gp, (by rw [put_H, upd_same]), k1.wf.bh.free hD, hDm, trivial, rfl, Nat.zero_le _, h5, rfl, rfl⟩, ?_⟩
      rintro i m H' ⟨w', T', acc, hacc, rem, rfl, gs, t', hA, hB, hm, hR, rfl, hi, hf, hys, hT⟩
      by_cases hlt : i < items.length
      · obtain ⟨y, hr⟩ : ∃ r, items[i]? = some r := ⟨items[i], List.getElem?_eq_getElem hlt⟩
        have hd : items.drop i = y :: items.drop (i + 1) := by
          rw [List.drop_eq_getElem_cons hlt]
          rw [List.getElem?_eq_getElem hlt] at hr
          rw [Option.some.inj hr]
        rw [hd] at hf
        unfold lcF at hf
        split at hf
        · rename_i hok
          obtain ⟨e1, h7, h8⟩ := Option.bind_eq_some_iff.mp hf
          obtain ⟨⟨kk, T1⟩, h9, h10⟩ := Option.bind_eq_some_iff.mp h8
          obtain ⟨go, yl⟩ := wk.go i y w' gs hr
          refine .inr ⟨go, fun H2 => ∃ m', m' < items.length - i ∧ Inv9 (i + 1) m' H2, fun _ z => z, fun v H2 hy => ?_⟩
          obtain ⟨w2, g2, rfl, r2⟩ := yl v H2 hy
          have gs2 : Gs w1 w2 := gs.trans (g2.gs gs.wf)
          have hA2 := g2.h _ _ hA
          have hB2 := own_mono g2 hA hB
          have hm2 : D ∉ w2.m := by rw [g2.m]; exact hm
          have t2 := t'.mono g2
          have hR2 : HvsOk (zx X cl) w2 acc hacc := HvsOk.mono g2.n (by rw [g2.m]; exact List.prefix_refl _) hR
          have gl := lend_gs gs2.wf hA2 hB2
          have kL : Wok (zx X cl) ⟨sl, T'⟩ (wipe σ vs) (lend w2 D (.lst acc)) := wok_slots kw no (gs2.trans gl) (lend_tb t2 hm2)
          have hid : ∀ w4 : Wd, w4.H D = some (.lst acc) → (back w4 D (.lst acc)).H = w4.H := fun w4 h => by
            funext a
            show upd w4.H D (.lst acc) a = w4.H a
            by_cases q : a = D
            · subst q; rw [upd_same, h]
            · rw [upd_ne q]
          refine ⟨⟨sl, T'⟩, lend w2 D (.lst acc), y, e1, rfl, kL, rv_lend hB2 hok r2, h7, fun σ3 w3 g3 k3 f3 l3 => ⟨?_, e1, w3, .val kk T1, rfl, k3, valX_some h9, fun w4 g4 k4 => ?_⟩⟩
          · have hl : σ3.length = σ.length := l3.trans (wipe_length σ vs)
            exact wipe_eq hl hsub f3
          · have g34 : Gs (lend w2 D (.lst acc)) w4 := (g3.gs kL.wf).trans g4
            dsimp only at h10
            cases kk with
            | false =>
              obtain ⟨b1, b2, b3, b4, b5⟩ := lend_back (o' := .lst acc) gs2.wf hA2 hB2 hm2 g34 k4.tb
              exact ⟨_, by omega, back w4 D (.lst acc), T1, acc, hacc, rem, hid w4 b1, gs2.trans b4, b5, upd_same, b3, b2, HvsOk.mono (w := w2) (w' := back w4 D (.lst acc)) b4.n b4.m hR2, rfl, hlt, h10, hys, hT⟩
            | true =>
              obtain ⟨⟨u, T2⟩, h11, h12⟩ := Option.bind_eq_some_iff.mp h10
              obtain ⟨rem', h13, rfl⟩ := Option.map_eq_some_iff.mp h12
              refine ⟨⟨e1.s, T1⟩, w4, .val u T2, rfl, k4, valX_some h11, fun v5 w5 g5 k5 hu => ?_⟩
              obtain ⟨b1, b2, b3, b4, b5⟩ := lend_back (o' := .lst (acc ++ [v5])) gs2.wf hA2 hB2 hm2 (g34.trans g5) k5.tb
              refine ⟨acc, b1, ?_, _, by omega, back w5 D (.lst (acc ++ [v5])), T2, acc ++ [v5], hacc ++ [u], rem', rfl, gs2.trans b4, b5, upd_same, b3, b2, ?_, rfl, hlt, h13, by rw [List.append_assoc]; exact hys, hT⟩
              · have l1 := hR.length
                have l2 : hacc.length ≤ res.length := by rw [← hys]; simp
                exact lim_lt (by omega)
              · exact (HvsOk.mono (w := w2) (w' := back w5 D (.lst (acc ++ [v5]))) b4.n b4.m hR2).app ⟨HvOk.mono (w := w5) (w' := back w5 D (.lst (acc ++ [v5]))) (.refl _) (List.prefix_refl _) hu, trivial⟩
        · cases hf
      · have e : i = items.length := by omega
        subst e
        rw [List.drop_length] at hf
        cases hf
        rw [List.append_nil] at hys
        subst hys
        have hT : T' = T9 := hT
        subst hT
        refine .inl ⟨wk.stop w' gs, ?_⟩
        have kf : Wok (zx X cl) ⟨es, T'⟩ σ w' := wok_slots k1 (ownFree_no hof) gs t'
        obtain ⟨k8, g8⟩ := enter kf (ownFree_no hof) hA hB hm hR
        refine q (.ref D) ⟨w'.N, w'.B, w'.H, w'.m ++ [D]⟩ ((g1.trans gs).trans g8) k8 ⟨D, rfl, ?_⟩
        have hlen : T'.length = w'.m.length := t'.len
        show (w'.m ++ [D])[T'.length]? = _
        rw [hlen, List.getElem?_append_right (Nat.le_refl _)]
        simp
    · cases h4
  · cases hr
theorem jz_setLcR (i : Nat) (own : List (Str × Nat)) {y : Str} {py spos : Pos} (hX : XS X) (hi : PI X tg iter (tIX (zx X cl) W fi)) (ok : blkC X.N X.env.scope scope own = true)
    (hg : ∀ (s' : Shared) (H : Hp) (C : Addr) (l : List (Str × Addr)) (fp : List Addr), PG (X.blk s' H scope (compEnvC scope l C X.env) fp) tg (tG (zx X cl) is s))
    (ht : ∀ (s' : Shared) (H : Hp) (C : Addr) (l : List (Str × Addr)) (fp : List Addr), PTs (X.blk s' H scope (compEnvC scope l C X.env) fp) ifs (tXT (zx X cl) W0 ct))
    (he : ∀ (s' : Shared) (H : Hp) (C : Addr) (l : List (Str × Addr)) (fp : List Addr), PE (X.blk s' H scope (compEnvC scope l C X.env) fp) elt (tX (zx X cl) W0 g))
    (hy : X.N[i]? = some y := by rfl) (hyl : X.env.scope.names.lookup y = some .local := by rfl)
    (hsw : swapsWith (.ListComp elt [⟨tg, iter, ifs, 0⟩] scope pos) (some (.Name y py)) spos.line X.env = pure true := by exact sw_true rfl rfl rfl (by decide +kernel))
    (hsub : is.all (fun i => (own.map (·.2)).contains i) = true := by rfl) (hs : ∀ x, foldedSetIterable iter X.env x = pure x := by intro _; rfl) :
    PS X (.Assign [.Name y py] (.ListComp elt [⟨tg, iter, ifs, 0⟩] scope pos) spos) (tSX (zx X cl) W (zSet i (xLcR fi s ct g (own.map (·.2))))) := by
  refine ps_w (ps_setLc hX.calm hX.nd hy hyl hsw hi (blkOk_by ok) hg ht he hs) fun D σ H ⟨env, w, out, e, k, hr, q⟩ => ?_
  subst e
  refine lcR_rd hsub (W := W) (Q := fun v H1 => D.nx (σ.set i (some v)) H1) ?_
  refine tX_then k hr q fun x T v w1 h1 g1 k1 hv => ?_
  obtain ⟨e2, h2, rfl⟩ := Option.map_eq_some_iff.mp h1
  exact q _ w1 g1 (setHS_ok k1 h2 hv)
end
end Vf
namespace Vf
open PySem L2
/-! ### slices whose bounds the table tells -/
abbrev FXO := Ev → Option (XRes (Option Int))
def xNoP : FXO := fun env => some (.val none env.t)
def ptX (x : HV) (T : Tb) : Option (XRes (Option Int)) := match x with | .pu (.int i) => some (.val (some i) T) | _ => none
def xPt (f : FX) : FXO := fun env => bX (f env) ptX
def xSlx (f : FX) (l u : FXO) : FX := fun env => bX (f env) fun x T => bX (l ⟨env.s, T⟩) fun lo T1 => bX (u ⟨env.s, T1⟩) fun hi T2 => slX x T2 lo hi
@[simp] theorem xNoP_eq {env : Ev} : xNoP env = some (.val none env.t) := rfl
@[simp] theorem xPt_eq {f : FX} {env : Ev} : xPt f env = (f env).bind (kX ptX) := rfl
@[simp] theorem ptX_int {i : Int} {T : Tb} : ptX (.pu (.int i)) T = some (.val (some i) T) := rfl
@[simp] theorem xSlx_eq {f : FX} {l u : FXO} {env : Ev} : xSlx f l u env = (f env).bind (kX fun x T => (l ⟨env.s, T⟩).bind (kX fun lo T1 => (u ⟨env.s, T1⟩).bind (kX fun hi T2 => slX x T2 lo hi))) := rfl
end Vf
namespace Vf
open PySem L2
/-! ### list(range(n)) -/
def rngD (n : Int) : List D := (List.range n.toNat).map fun k => .int ((k : Nat) : Int)
noncomputable def rgK (r : TD) : Option (Tg × List D) := match r.2 with | .int n => cif (-4611686018427387904 ≤ n ∧ n ≤ 16777216) (some (.N, rngD n)) none | _ => none
noncomputable def sLRg (f : FE) : FL := fun env => (f env).bind rgK
@[simp] theorem sLRg_eq {f : FE} {env : Ev} : sLRg f env = (f env).bind rgK := rfl
@[simp] theorem Ok_rgK {t : Tg} {n : Int} {Q : Tg × List D → Prop} : Ok (rgK (t, .int n)) Q ↔ (-4611686018427387904 ≤ n ∧ n ≤ 16777216) ∧ Q (.N, rngD n) := by
  unfold rgK
  rw [Ok_cif, Ok_some]
end Vf
namespace Vf
open PySem L2 PyProof.Rows
/-! ### a dict of the module: its length, its type -/
end Vf
namespace Vf
open PySem L2
/-! ### enumerate of what the table tells -/
def enX (k0 : Int) (x : HV) (T : Tb) : Option (XRes (List TD)) := match x with | .pu d => (itEn k0 (.N, d)).map fun is => .val is T | _ => none
def xEn (k0 : Int) (f : FX) : FIX := fun env => bX (f env) (enX k0)
@[simp] theorem xEn_eq {k0 : Int} {f : FX} {env : Ev} : xEn k0 f env = (f env).bind (kX (enX k0)) := rfl
@[simp] theorem enX_pu {k0 : Int} {d : D} {T : Tb} : enX k0 (.pu d) T = (itEn k0 (.N, d)).map fun is => .val is T := rfl
/-! ### list(range(i, j)) -/
def rngD2 (i j : Int) : List D := (List.range (j - i).toNat).map fun k => .int (i + (k : Nat))
noncomputable def rgK2 (x y : TD) : Option (Tg × List D) := match x.2 with
  | .int i => match y.2 with
    | .int j => cif (-4611686018427387904 ≤ i ∧ i ≤ 16777216 ∧ -4611686018427387904 ≤ j ∧ j ≤ 16777216 ∧ j - i ≤ 16777216) (some (.N, rngD2 i j)) none
    | _ => none
  | _ => none
noncomputable def sLRg2 (f g : FE) : FL := fun env => (f env).bind fun x => (g env).bind fun y => rgK2 x y
@[simp] theorem sLRg2_eq {f g : FE} {env : Ev} : sLRg2 f g env = (f env).bind fun x => (g env).bind fun y => rgK2 x y := rfl
@[simp] theorem Ok_rgK2 {t u : Tg} {i j : Int} {Q : Tg × List D → Prop} : Ok (rgK2 (t, .int i) (u, .int j)) Q ↔ (-4611686018427387904 ≤ i ∧ i ≤ 16777216 ∧ -4611686018427387904 ≤ j ∧ j ≤ 16777216 ∧ j - i ≤ 16777216) ∧ Q (.N, rngD2 i j) := by
  unfold rgK2
  rw [Ok_cif, Ok_some]
/-! ### f() of a def that sees the table; list(d) of a dict of the table -/
section
variable {X : Cx} {cl : Str → Option Addr} {W : WX} {a : Expr} {f : FX} {p pos : Pos} {k j : Nat} {ps : List Str} {gg : List HV → Tb → Option (XRes HV)}
def keyHV : Key → HV | .inl i => .pu (.int i) | .inr z => .pu (.str z)
def keysK (x : HV) (T : Tb) : Option (XRes HV) := match x with
  | .ob n => match T[n]? with
    | some (some (.dic ks _)) => some (.val (.ob T.length) (T ++ [some (.lst (ks.map keyHV))]))
    | _ => none
  | _ => none
def xKeys (f : FX) : FX := fun env => bX (f env) keysK
@[simp] theorem xKeys_eq {f : FX} {env : Ev} : xKeys f env = (f env).bind (kX keysK) := rfl
end
end Vf
namespace Vf
open PySem L2 PySem.Spec PyProof.Rows
/-! ### xs.extend(ys), ys a list of the table or any tuple -/
def seqX (T : Tb) (y : HV) : Option (List HV) := match obLst T y with
  | some q => some q.2
  | none => (srcM T y).bind fun M => match M with | .tup ys => some ys | _ => none
def extA (x : HV) (as : List HV) (T : Tb) : Option (XRes HV) := match as with
  | [y] => (obLst T x).bind fun p => (seqX T y).bind fun ys => if p.2.length + ys.length ≤ lim then some (.val (.pu .non) (T.set p.1 (some (.lst (p.2 ++ ys))))) else none
  | _ => none
def xExtA (f : FX) (fa : FXA) : FX := fun env => bX (f env) fun x T1 => (isLst T1 x).bind fun _ => bX (fa ⟨env.s, T1⟩) fun xs T2 => extA x xs T2
@[simp] theorem xExtA_eq {f : FX} {fa : FXA} {env : Ev} : xExtA f fa env = (f env).bind (kX fun x T1 => (isLst T1 x).bind fun _ => (fa ⟨env.s, T1⟩).bind (kX fun xs T2 => extA x xs T2)) := rfl
end Vf
namespace Vf
open PySem L2 PySem.Spec PyProof.Rows
/-! ### xs.index(x), texts -/
def idxZ (z : Str) (ys : List Str) : Option Nat := ys.findIdx? fun y => decide (y = z)
@[simp] def sIdxT (ss : List Str) (g : FE) : FE := fun env => (g env).bind fun r => match r.2 with
  | .str z => (idxZ z ss).map fun j => (.N, .int (j : Nat))
  | _ => none
def xIdxT (ss : List Str) (f : FX) : FX := fun env => bX (f env) fun y T => match y with
  | .pu (.str z) => (idxZ z ss).map fun j => .val (.pu (.int (j : Nat))) T
  | _ => none
@[simp] theorem xIdxT_eq {ss : List Str} {f : FX} {env : Ev} : xIdxT ss f env = (f env).bind (kX fun y T => match y with
  | .pu (.str z) => (idxZ z ss).map fun j => .val (.pu (.int (j : Nat))) T
  | _ => none) := rfl
def isLs (T : Tb) (x : HV) : Option Unit := (srcM T x).bind fun M => match M with | .lst _ => some () | _ => none
def idxX (x : HV) (as : List HV) (T : Tb) : Option (XRes HV) := match as with
  | [.pu (.str z)] => (srcM T x).bind fun M => match M with
    | .lst xs => (pures xs).bind fun ds => (strsOf ds).bind fun ys => (idxZ z ys).map fun j => .val (.pu (.int (j : Nat))) T
    | _ => none
  | _ => none
def xIdx (f : FX) (fa : FXA) : FX := fun env => bX (f env) fun x T1 => (isLs T1 x).bind fun _ => bX (fa ⟨env.s, T1⟩) fun xs T2 => idxX x xs T2
@[simp] theorem xIdx_eq {f : FX} {fa : FXA} {env : Ev} : xIdx f fa env = (f env).bind (kX fun x T1 => (isLs T1 x).bind fun _ => (fa ⟨env.s, T1⟩).bind (kX fun xs T2 => idxX x xs T2)) := rfl
end Vf
namespace Vf
open PySem L2 PySem.Spec PyProof.Rows
/-! ### zip of two tuples, its pairs kept by a name -/
/-! ### zip, by data -/
end Vf
namespace Vf
open PySem L2
/-! ### d.get(k, x) and d.setdefault(k, x), d a dict of the table -/
/-! ### sorted(xs), xs a list of pairs of ints -/
/-! ### (*a, b): displays and calls with stars -/
/-! ### {k: v for .. in e}, e told by the table -/
/-! ### sorted(xs), xs ints that the table tells: a new list of the table -/
end Vf
namespace Vf
open PySem L2 PySem.Spec PyProof.Rows
/-! ### xs.index(i), ints; a list of scalars out of borrowed ones -/
def idxI (i : Int) (ys : List Int) : Option Nat := ys.findIdx? fun y => decide (y = i)
def ownOk (r : Tg × List D) : Bool := match r.1 with
  | .N => true
  | .B => r.2.all isS
  | _ => false
def sOwnB (i : Nat) (f : FL) : FS := fun env => (f env).bind fun r => if i < env.s.length ∧ ownOk r = true then some (.nx (env.put i (.own r.2))) else none
section
variable {X : Cx} {cl : Str → Option Addr} {W : WX} {a e o : Expr} {es : List Expr} {f g : FE} {fl : FL} {fx : FX} {fa : FXA} {pos apos p : Pos}
@[simp] theorem sOwnB_eq {n : Nat} {env : Ev} : sOwnB n fl env = (fl env).bind fun r => if n < env.s.length ∧ ownOk r = true then some (.nx (env.put n (.own r.2))) else none := rfl
@[simp] theorem ownOk_N {ds : List D} : ownOk (.N, ds) = true := rfl
@[simp] theorem ownOk_B {ds : List D} : ownOk (.B, ds) = ds.all isS := rfl
end
end Vf
namespace Vf
open PySem PySem.Spec PyProof.Rows L2
/-! ### list(reversed(x)) and list(range(n)) over the table -/
def revK (x : HV) (T : Tb) : Option (XRes HV) := (srcM T x).map fun M => .val (.ob T.length) (T ++ [some (.lst (mobI M).reverse)])
/-- list(reversed(e)): a new object -/
def xLRev (f : FX) : FX := fun env => bX (f env) revK
@[simp] theorem xLRev_eq {f : FX} {env : Ev} : xLRev f env = (f env).bind (kX revK) := rfl
@[simp] theorem revK_eq {x : HV} {T : Tb} : revK x T = (srcM T x).map fun M => .val (.ob T.length) (T ++ [some (.lst (mobI M).reverse)]) := rfl
noncomputable def rngK (x : HV) (T : Tb) : Option (XRes HV) := match x with
  | .pu (.int n) => cif (-4611686018427387904 ≤ n ∧ n ≤ 16777216) (some (.val (.pu (.lst (rngD n))) T)) none
  | _ => none
/-- list(range(e)), n told by the table: a tree -/
noncomputable def xLRng (f : FX) : FX := fun env => bX (f env) rngK
@[simp] theorem xLRng_eq {f : FX} {env : Ev} : xLRng f env = (f env).bind (kX rngK) := rfl
def revPK (x : HV) (T : Tb) : Option (XRes HV) := match x with
  | .pu (.lst ds) => some (.val (.pu (.lst ds.reverse)) T)
  | .pu (.tup ds) => some (.val (.pu (.lst ds.reverse)) T)
  | _ => none
/-- list(reversed(e)) of a tree: a tree -/
def xLRevP (f : FX) : FX := fun env => bX (f env) revPK
@[simp] theorem xLRevP_eq {f : FX} {env : Ev} : xLRevP f env = (f env).bind (kX revPK) := rfl
@[simp] theorem revPK_l {ds : List D} {T : Tb} : revPK (.pu (.lst ds)) T = some (.val (.pu (.lst ds.reverse)) T) := rfl
@[simp] theorem revPK_t {ds : List D} {T : Tb} : revPK (.pu (.tup ds)) T = some (.val (.pu (.lst ds.reverse)) T) := rfl
end Vf
namespace Vf
open PySem PySem.Spec PyProof.Rows L2
/-! ### text.replace(text, text): the object has been read by a written place, so a token is out -/
def replK (y z : Str) (x : HV) (T : Tb) : Option (XRes HV) := match x with
  | .pu (.str t) => if t.length ≤ 1048576 then some (.val (.pu (.str (Txt.replace t y z))) T) else none
  | _ => none
/-- e.replace(y, z) -/
def xRepl (y z : Str) (f : FX) : FX := fun env => bX (f env) (replK y z)
@[simp] theorem xRepl_eq {y z : Str} {f : FX} {env : Ev} : xRepl y z f env = (f env).bind (kX (replK y z)) := rfl
end Vf
namespace Vf
open PySem L2 NdefX LamX
/-! ### a def within a def -/
/-- what a name holds that a function may capture -/
def slHV : Sl → Option HV
  | .val .N d => some (.pu d)
  | .han n => some (.ob n)
  | _ => none
/-- what several slots hold -/
def slsHV (s : List Sl) (js : List Nat) : Option (List HV) := mapO (fun j => s[j]?.bind slHV) js
@[simp] theorem slsHV_nil {s : List Sl} : slsHV s [] = some [] := rfl
@[simp] theorem slsHV_cons {s : List Sl} {j : Nat} {js : List Nat} : slsHV s (j :: js) = (s[j]?.bind slHV).bind fun y => (slsHV s js).map fun ys => y :: ys := rfl
@[simp] theorem slHV_val {d : D} : slHV (.val .N d) = some (.pu d) := rfl
@[simp] theorem slHV_han {n : Nat} : slHV (.han n) = some (.ob n) := rfl
/-! ### the made function, called -/
/-! ### a def whose last parameter is such a function -/
/-! ### the maker itself, and the law's start -/
/-! index of whole numbers, of a list of the table -/
def idxXI (x : HV) (as : List HV) (T : Tb) : Option (XRes HV) := match as with
  | [.pu (.int z)] => (srcM T x).bind fun M => match M with
    | .lst xs => (pures xs).bind fun ds => (Lw.intsOf ds).bind fun ys => (idxI z ys).map fun j => .val (.pu (.int (j : Nat))) T
    | _ => none
  | _ => none
def xIdxI (f : FX) (fa : FXA) : FX := fun env => bX (f env) fun x T1 => (isLs T1 x).bind fun _ => bX (fa ⟨env.s, T1⟩) fun xs T2 => idxXI x xs T2
@[simp] theorem xIdxI_eq {f : FX} {fa : FXA} {env : Ev} : xIdxI f fa env = (f env).bind (kX fun x T1 => (isLs T1 x).bind fun _ => (fa ⟨env.s, T1⟩).bind (kX fun xs T2 => idxXI x xs T2)) := rfl
end Vf
namespace Vf
open PySem L2
/-! sum of whole numbers -/
end Vf
namespace Vf
open PySem PySem.Spec PyProof.Rows L2
/-! ### xs[::-1] over the table, a < b < c with handles -/
def revSK (x : HV) (T : Tb) : Option (XRes HV) := (srcM T x).bind fun M => match M with
  | .lst xs => some (.val (.ob T.length) (T ++ [some (.lst xs.reverse)]))
  | _ => none
/-- e[::-1] of a list: a new object -/
def xRevS (f : FX) : FX := fun env => bX (f env) revSK
@[simp] theorem xRevS_eq {f : FX} {env : Ev} : xRevS f env = (f env).bind (kX revSK) := rfl
def chK (o p : TD → TD → Option TD) (h : FX) (s : List Sl) (x y : HV) (T : Tb) : Option (XRes HV) := (tdX T x).bind fun a => (tdX T y).bind fun b => (o a b).bind fun z => (asB z).bind fun k => if k then bX (h ⟨s, T⟩) fun c T' => opX p y c T' else some (.val (.pu (.bl false)) T)
/-- a op1 b op2 c -/
def xCh (o p : TD → TD → Option TD) (f g h : FX) : FX := fun env => bX (f env) fun x T1 => bX (g ⟨env.s, T1⟩) fun y T2 => chK o p h env.s x y T2
def mulK (x y : HV) (T : Tb) : Option (XRes HV) := match y with
  | .pu (.int k) => (catM T x).bind fun xs => if k.natAbs ≤ lim ∧ xs.length * k.toNat ≤ lim then some (.val (.ob T.length) (T ++ [some (.lst (List.replicate k.toNat xs).flatten)])) else none
  | _ => none
/-- a list of the table, several times -/
def xMulL (f g : FX) : FX := fun env => bX (f env) fun x T1 => bX (g ⟨env.s, T1⟩) fun y T2 => mulK x y T2
theorem HvsOk.rep {Z : Zc} {w : Wd} {vs : List V} {xs : List HV} (h : HvsOk Z w vs xs) : ∀ n, HvsOk Z w (List.replicate n vs).flatten (List.replicate n xs).flatten
  | 0 => trivial
  | n + 1 => by
    rw [List.replicate_succ, List.replicate_succ, List.flatten_cons, List.flatten_cons]
    exact HvsOk.cat h (HvsOk.rep h n)
/-! ### tuple * number, many times -/
section
variable {X : Cx} {cl : Str → Option Addr} {W : WX} {a b c e : Expr} {f g h : FX} {te : TE} {p1 p2 p3 pos : Pos}
@[simp] theorem xMulL_eq {env : Ev} : xMulL f g env = (f env).bind (kX fun x T1 => (g ⟨env.s, T1⟩).bind (kX fun y T2 => mulK x y T2)) := rfl
@[simp] theorem xCh_eq {o p : TD → TD → Option TD} {env : Ev} : xCh o p f g h env = (f env).bind (kX fun x T1 => (g ⟨env.s, T1⟩).bind (kX fun y T2 => chK o p h env.s x y T2)) := rfl
@[simp] theorem chK_eq {o p : TD → TD → Option TD} {s : List Sl} {x y : HV} {T : Tb} : chK o p h s x y T = (tdX T x).bind fun a => (tdX T y).bind fun b => (o a b).bind fun z => (asB z).bind fun k => if k then (h ⟨s, T⟩).bind (kX fun c T' => opX p y c T') else some (.val (.pu (.bl false)) T) := rfl
end
end Vf
namespace Vf
open PySem PySem.Spec PyProof.Rows L2
/-! ### x in xs, by value, of any data in a list -/
end Vf
namespace Vf
open PySem L2
/-! ### exceptions that are caught -/
structure XS0 (X : Cx) : Prop where
  nd : X.N.Nodup
  hu : X.A.units + 65 < cLine
/-- the caught exception in slot i -/
def exoAt (a dx C : Addr) (i : Nat) (env : Ev) : Option (Str × List Str × List D) := match env.s[i]? with
  | some (.exo a' dx' C' c ns ds) => if a' = a ∧ dx' = dx ∧ C' = C then some (c, ns, ds) else none
  | _ => none
def sExF (a dx C : Addr) (i : Nat) (f : Str) (cs : List Str) : FE := fun env => (exoAt a dx C i env).bind fun q => if q.1 ∈ cs then ((q.2.1.zip q.2.2).lookup f).map fun d => (.N, d) else none
def sIsE (a dx C : Addr) (i : Nat) (tb : List (Str × Bool)) : FE := fun env => (exoAt a dx C i env).bind fun q => (tb.lookup q.1).map fun b => (.N, .bl b)
theorem exoAt_ok {Z : Zc} {env : Ev} {σ : L2.St} {w : Wd} {a dx C : Addr} {i : Nat} {c : Str} {ns : List Str} {ds : List D} (k : Wok Z env σ w) (h : exoAt a dx C i env = some (c, ns, ds)) : σ[i]? = some (some (.ref a)) ∧ Z.cl c = some C ∧ ∃ vs, w.B dx = some (.xd (ns.zip vs)) ∧ vs.length = ns.length ∧ RpL Z w.N vs ds := by
  unfold exoAt at h
  split at h
  · rename_i a' dx' C' c' ns' ds' he
    split at h
    · rename_i hc
      obtain ⟨rfl, rfl, rfl⟩ := hc
      cases h
      obtain ⟨o, ho, vs, e1, e2, e3, e4, e5⟩ := k.sl i _ he
      subst e1
      exact ⟨ho, e2, vs, e3, e4, e5⟩
    · cases h
  · cases h
theorem zip_look {Z : Zc} {H : Hp} {f : Str} {d : D} : ∀ {ns : List Str} {vs : List V} {ds : List D}, RpL Z H vs ds → (ns.zip ds).lookup f = some d → ∃ v, (ns.zip vs).lookup f = some v ∧ Rp Z H v d
  | [], _, _, _, h => by cases h
  | _ :: _, _, _, .nil, h => by cases h
  | n :: ns, _, _, .cons (v := v) (d := d0) h r, e => by
    by_cases c : f = n
    · subst c
      have e : ((f, d0) :: ns.zip _).lookup f = some d := e
      rw [List.lookup_cons_self] at e
      cases e
      exact ⟨v, List.lookup_cons_self, h⟩
    · have hb : (f == n) = false := by simp [c]
      have e : ((n, d0) :: ns.zip _).lookup f = some d := e
      rw [List.lookup_cons, hb] at e
      obtain ⟨u, h1, h2⟩ := zip_look r e
      refine ⟨u, ?_, h2⟩
      show ((n, v) :: ns.zip _).lookup f = some u
      rw [List.lookup_cons, hb]
      exact h1
section
variable {X : Cx} {cl : Str → Option Addr} {W : WX} {a dx C : Addr} {oe : Obj} {pn : List (Addr × Obj)} {i : Nat} {n f : Str} {cs : List Str} {p q pos : Pos}
/-- e.f of the caught exception -/
theorem je_exF (hz : L2N.Zn (.ref C) (some dx) oe) (hf : ∃ vs, oe.data = .fields vs) (hC : ∀ c ∈ cs, ∀ C, cl c = some C → XfC X.K C ∧ PySem.W.findIn X.K (.ref C) f = some none) (hN : X.N[i]? = some n := by rfl) (hv : Vis X.env.scope n := by first | exact Or.inl rfl | exact Or.inr (Or.inl rfl) | exact Or.inr (Or.inr rfl))
    (hd : (n == ("__debug__" : Str)) = false := by decide) (hcd : (n == ("__classdict__" : Str)) = false := by decide) (hb : attributeBase (.Name n p) f X.env (eval (.Name n p) X.env) = eval (.Name n p) X.env := by rfl) :
    PE (X.suite a ((a, oe) :: pn)) (.Attribute (.Name n p) f pos) (tE (zx X cl) (sExF a dx C i f cs)) := by
  refine ⟨fun pins s σ H Q I h => ?_⟩
  obtain ⟨env, w, r, eH, k, hr, q⟩ := h
  subst eH
  obtain ⟨⟨c, ns, ds⟩, h1, h2⟩ := Option.bind_eq_some_iff.mp hr
  obtain ⟨g1, g2, vs, g3, g4, g5⟩ := exoAt_ok k h1
  dsimp only at h2
  split at h2
  · rename_i hc
    obtain ⟨d, h3, rfl⟩ := Option.map_eq_some_iff.mp h2
    obtain ⟨T, hno⟩ := hC c hc C g2
    obtain ⟨v, l1, l2⟩ := zip_look g5 h3
    refine (pe_xf (X := X) (cls := .ref C) (d := some dx) T hno hz.zc hf (pe_var (X := X.suite a ((a, oe) :: pn)) (i := i) hN hv hd hcd) hb).run pins s σ w.H Q I ⟨_, g1, rfl, rfl, dx, _, v, rfl, k.wf.bh _ _ g3, l1, q v w (Gr.refl k.wf) l2⟩
  · cases h2
/-- isinstance of an exception that has a dict -/
def rIsD (K : PySem.W.Frag) (C a dx : Addr) : List V → Hp → VK → Prop := fun xs H Q => ∃ (c : V) (cv : Value) (b : Bool) (fs : List (Str × V)), xs = [.ref a, c] ∧ (∀ u, RelV c u → u = cv) ∧ PySem.W.kitOne K (.ref C) cv = some b ∧ H dx = some (.xd fs) ∧ Q (.bl b) H
theorem call_isD (T : ExcC X.K C) (hz : L2N.Zn (.ref C) (some dx) oe) (hf : ∃ vs, oe.data = .fields vs) : CallR (X.suite a ((a, oe) :: pn)) (.builtin "isinstance") (rIsD X.K C a dx) := by
  intro ps s σ H xs us Q I r h
  obtain ⟨c, cv, b, fs, rfl, same, e, he, q⟩ := h
  cases r with
  | cons r1 r2 =>
    cases r2 with
    | cons r3 r4 =>
      cases r4
      cases r1
      have z := same _ r3
      subst z
      have here := (I.pin (a, oe) (List.mem_append_left _ List.mem_cons_self)).1
      obtain ⟨vs, hd⟩ := hf
      have hx : ObjOk X.prog X.w H s.heap dx (.xd fs) := I.hok dx _ he
      obtain ⟨mA, hns, _⟩ := hx
      obtain ⟨od, ho, _⟩ := lookIn_ns hns
      have J : PySem.W.InstAt s.heap a oe C (some od) := ⟨here, hz.1, by unfold PySem.W.notCls; rw [hd] <;> rfl, by rw [hz.2.1]; exact ho⟩
      have hcl : (PySem.W.clsIn X.K C).isSome = true := by
        obtain ⟨cd, hc, _⟩ := PySem.W.any_some T.hd
        rw [hc]
        rfl
      exact PySem.W.kia_one (PySem.W.kitx_exc hcl T.hg T.hk T.hs T.ha T.hn T.ht T.hm) I.kIn J e (fun z => nomatch z) fun tk => ⟨.bl b, H, I.kept (t' := tk) fun _ _ z => z, rfl, q⟩
/-- what a class says of the classes that are caught: which of them are its own -/
def IsT (K : PySem.W.Frag) (cl : Str → Option Addr) (tv : Value) (tb : List (Str × Bool)) : Prop := ∀ c b, tb.lookup c = some b → ∀ C, cl c = some C → ExcC K C ∧ PySem.W.kitOne K (.ref C) tv = some b
theorem je_isE {tn : Str} {D : Addr} {tb : List (Str × Bool)} (hz : L2N.Zn (.ref C) (some dx) oe) (hf : ∃ vs, oe.data = .fields vs) (hT : IsT X.K cl (.ref D) tb) (hm : X.mg tn = some (.ref D)) (mi : X.mg "isinstance" = none) (hN : X.N[i]? = some n := by rfl) (hgi : Gl X "isinstance" := by rfl) (hgt : Gl X tn := by rfl)
    (hdb : (tn == ("__debug__" : Str)) = false := by decide) (hv : Vis X.env.scope n := by first | exact Or.inl rfl | exact Or.inr (Or.inl rfl) | exact Or.inr (Or.inr rfl))
    (hd : (n == ("__debug__" : Str)) = false := by decide) (hcd : (n == ("__classdict__" : Str)) = false := by decide) (he : starEach [.Name n p, .Name tn q] X.env = (false, eval (.Name n p) X.env) :: starEach [.Name tn q] X.env := by rfl)
    (hpl : (backTo pos (starEach [.Name tn q] X.env)).any (·.1) = false := by rfl) (he2 : starEach [.Name tn q] X.env = (false, eval (.Name tn q) X.env) :: starEach [] X.env := by rfl) {p0 : Pos} :
    PE (X.suite a ((a, oe) :: pn)) (.Call (.Name "isinstance" p0) [.Name n p, .Name tn q] [] pos) (tE (zx X cl) (sIsE a dx C i tb)) := by
  refine ⟨fun pins s σ H Q I h => ?_⟩
  obtain ⟨env, w, r, eH, k, hr, qq⟩ := h
  subst eH
  obtain ⟨⟨c, ns, ds⟩, h1, h2⟩ := Option.bind_eq_some_iff.mp hr
  obtain ⟨g1, g2, vs, g3, g4, g5⟩ := exoAt_ok k h1
  obtain ⟨b, h3, rfl⟩ := Option.map_eq_some_iff.mp h2
  obtain ⟨T, hk⟩ := hT c b h3 C g2
  refine (pe_callB (X := X.suite a ((a, oe) :: pn)) (call_isD T hz hf) hgi mi PyProof.Rows.boot_isinstance (pa_cons (pe_var (X := X.suite a ((a, oe) :: pn)) (i := i) hN hv hd hcd) (pa_cons (pe_glob (v := .ref D) hgt hm rfl hdb) pa_nil he2) he) (by decide) (by decide) he hpl).run pins s σ w.H Q I ?_
  exact ⟨_, g1, .ref D, .ref D, b, _, rfl, fun u e => e, hk, k.wf.bh _ _ g3, qq (.bl b) w (Gr.refl k.wf) (nN (.bl b) rfl)⟩
theorem je_isEb {tn : Str} {tv : Value} {T : String} {tb : List (Str × Bool)} (hz : L2N.Zn (.ref C) (some dx) oe) (hf : ∃ vs, oe.data = .fields vs) (hT : IsT X.K cl (.type T) tb) (hm : X.mg tn = none) (hbt : bootBuiltins tn = some (.type T)) (mi : X.mg "isinstance" = none) (hN : X.N[i]? = some n := by rfl) (hgi : Gl X "isinstance" := by rfl) (hgt : Gl X tn := by rfl)
    (hnn : tn ≠ "__name__" := by decide) (hdb : (tn == ("__debug__" : Str)) = false := by decide) (hv : Vis X.env.scope n := by first | exact Or.inl rfl | exact Or.inr (Or.inl rfl) | exact Or.inr (Or.inr rfl))
    (hd : (n == ("__debug__" : Str)) = false := by decide) (hcd : (n == ("__classdict__" : Str)) = false := by decide) (he : starEach [.Name n p, .Name tn q] X.env = (false, eval (.Name n p) X.env) :: starEach [.Name tn q] X.env := by rfl)
    (hpl : (backTo pos (starEach [.Name tn q] X.env)).any (·.1) = false := by rfl) (he2 : starEach [.Name tn q] X.env = (false, eval (.Name tn q) X.env) :: starEach [] X.env := by rfl) {p0 : Pos} :
    PE (X.suite a ((a, oe) :: pn)) (.Call (.Name "isinstance" p0) [.Name n p, .Name tn q] [] pos) (tE (zx X cl) (sIsE a dx C i tb)) := by
  refine ⟨fun pins s σ H Q I h => ?_⟩
  obtain ⟨env, w, r, eH, k, hr, qq⟩ := h
  subst eH
  obtain ⟨⟨c, ns, ds⟩, h1, h2⟩ := Option.bind_eq_some_iff.mp hr
  obtain ⟨g1, g2, vs, g3, g4, g5⟩ := exoAt_ok k h1
  obtain ⟨b, h3, rfl⟩ := Option.map_eq_some_iff.mp h2
  obtain ⟨TC, hk⟩ := hT c b h3 C g2
  refine (pe_callB (X := X.suite a ((a, oe) :: pn)) (call_isD TC hz hf) hgi mi PyProof.Rows.boot_isinstance (pa_cons (pe_var (X := X.suite a ((a, oe) :: pn)) (i := i) hN hv hd hcd) (pa_cons (pe_bltn (v := .ty T) hgt hm hbt rfl hnn hdb) pa_nil he2) he) (by decide) (by decide) he hpl).run pins s σ w.H Q I ?_
  exact ⟨_, g1, .ty T, .type T, b, _, rfl, fun u e => e, hk, k.wf.bh _ _ g3, qq (.bl b) w (Gr.refl k.wf) (nN (.bl b) rfl)⟩
end
end Vf
namespace Vf
open PySem L2
/-! ### try .. except X as e: the suite -/
/-- the dict of a caught exception is borrowed from here on -/
def ent (w : Wd) (dx : Addr) (fs : List (Str × V)) : Wd := ⟨w.N, upd w.B dx (.xd fs), w.H, w.m⟩
section
variable {Z : Zc} {env : Ev} {σ : L2.St} {w : Wd} {dx a C : Addr} {fs : List (Str × V)}
theorem ent_b (hw : Wf w) (hd : w.H dx = some (.xd fs)) : Same w.B (upd w.B dx (.xd fs)) := fun b u e => by
  by_cases h : b = dx
  · subst h
    have := hw.bh _ _ e
    rw [hd] at this
    cases this
    exact upd_same
  · rw [upd_ne h]; exact e
theorem ent_wf (hw : Wf w) (hd : w.H dx = some (.xd fs)) : Wf (ent w dx fs) := ⟨hw.nb.trans (ent_b hw hd), fun b u e => by
  by_cases h : b = dx
  · subst h
    have e : upd w.B b (.xd fs) b = some u := e
    rw [upd_same] at e
    cases e
    exact hd
  · have e : upd w.B dx (.xd fs) b = some u := e
    rw [upd_ne h] at e
    exact hw.bh _ _ e⟩
theorem ent_gs (hw : Wf w) (hd : w.H dx = some (.xd fs)) : Gs w (ent w dx fs) := ⟨ent_wf hw hd, .refl _, ent_b hw hd, fun _ q => .inl q, List.prefix_refl _, fun _ q => .inl q⟩
theorem ent_none (hd : w.H dx = some (.xd fs)) {p : Addr} {o : HO} (hp : w.H p = some o) (ho : ∀ gs, o ≠ .xd gs) (h : w.B p = none) : (ent w dx fs).B p = none := by
  show upd w.B dx (.xd fs) p = none
  rw [upd_ne (fun e => by rw [e, hd] at hp; cases hp; exact ho _ rfl)]
  exact h
theorem ent_sl (hw : Wf w) (hd : w.H dx = some (.xd fs)) {o : Option V} : ∀ {s : Sl}, SlOk Z w o s → SlOk Z (ent w dx fs) o s
  | .un, _ => trivial
  | .val _ _, ⟨v, e, h⟩ => ⟨v, e, h.imp id fun ⟨x, y⟩ => ⟨x, Rp.mono (ent_b hw hd) y⟩⟩
  | .own _, ⟨p, vs, e, h, b, hm, r⟩ => ⟨p, vs, e, h, ent_none hd h (fun _ z => nomatch z) b, hm, r⟩
  | .han _, h => h
  | .exo _ _ _ _ _ _, ⟨vs, e, hc, h, hl, r⟩ => ⟨vs, e, hc, ent_b hw hd _ _ h, hl, r⟩
  | .clo _ _ _ _, ⟨e, h1, h2, h3⟩ => ⟨e, h1, h2, HvsOk.mono (w := w) (w' := ent w dx fs) (.refl _) (List.prefix_refl _) h3⟩
theorem mob_xd {M : Mob} {p : Addr} (h : MobOk Z w p M) : ∃ o, w.H p = some o ∧ ∀ gs, o ≠ .xd gs := by
  cases M with
  | lst _ => obtain ⟨vs, h, _⟩ := h; exact ⟨_, h, fun _ z => nomatch z⟩
  | tup _ => obtain ⟨vs, h, _⟩ := h; exact ⟨_, h, fun _ z => nomatch z⟩
  | ins _ _ _ => obtain ⟨_, _, vs, h, _⟩ := h; exact ⟨_, h, fun _ z => nomatch z⟩
  | dic _ _ => obtain ⟨vs, h, _⟩ := h; exact ⟨_, h, fun _ z => nomatch z⟩
  | cod _ => obtain ⟨_, ps, h, _⟩ := h; exact ⟨_, h, fun _ z => nomatch z⟩
theorem ent_tb {T : Tb} (hw : Wf w) (hd : w.H dx = some (.xd fs)) (h : TbOk Z T w) : TbOk Z T (ent w dx fs) := ⟨h.len, h.nd, h.hh, fun n M e => by
  obtain ⟨p, h1, h2, h3⟩ := h.at_ n M e
  obtain ⟨o, h4, h5⟩ := mob_xd h3
  exact ⟨p, h1, ent_none hd h4 h5 h2, MobOk.mono (w := w) (w' := ent w dx fs) (.refl _) (List.prefix_refl _) (fun _ z => z) h3⟩⟩
theorem ent_wok (k : Wok Z env σ w) (hd : w.H dx = some (.xd fs)) : Wok Z env σ (ent w dx fs) := ⟨ent_wf k.wf hd, k.len, fun i s e => let ⟨o, h, q⟩ := k.sl i s e; ⟨o, h, ent_sl k.wf hd q⟩, k.dj, ent_tb k.wf hd k.tb⟩
/-- a slot takes something that is no list of its own -/
theorem wok_slot (k : Wok Z env σ w) (i : Nat) (o : Option V) (s : Sl) (hs : SlOk Z w o s) (hn : ∀ ds, s ≠ .own ds) : Wok Z ⟨env.s.set i s, env.t⟩ (σ.set i o) w := by
  refine ⟨k.wf, by simp [k.len], fun j t e => ?_, fun j1 j2 ds es p hne e1 e2 s1 => ?_, k.tb⟩
  · have hl := k.len
    by_cases h : i = j
    · subst h
      have hi := (List.getElem?_eq_some_iff.mp e).1
      have hi2 : i < env.s.length := by simpa using hi
      rw [List.getElem?_set_self hi2] at e
      cases e
      exact ⟨o, List.getElem?_set_self (by omega), hs⟩
    · have e : (env.s.set i s)[j]? = some t := e
      rw [List.getElem?_set_ne h] at e
      obtain ⟨o', h1, h2⟩ := k.sl j t e
      exact ⟨o', by rw [List.getElem?_set_ne h]; exact h1, h2⟩
  · have no : ∀ j ds, (env.s.set i s)[j]? = some (.own ds) → i ≠ j ∧ env.s[j]? = some (.own ds) := fun j ds e => by
      by_cases h : i = j
      · subst h
        have hi := (List.getElem?_eq_some_iff.mp e).1
        have hi2 : i < env.s.length := by simpa using hi
        rw [List.getElem?_set_self hi2] at e
        cases e
        exact absurd rfl (hn ds)
      · rw [List.getElem?_set_ne h] at e
        exact ⟨h, e⟩
    obtain ⟨h1, f1⟩ := no j1 ds e1
    obtain ⟨h2, f2⟩ := no j2 es e2
    rw [List.getElem?_set_ne h1] at s1
    rw [List.getElem?_set_ne h2]
    exact k.dj j1 j2 ds es p hne f1 f2 s1
end
def wipeO (i : Nat) : OutX → Option OutX
  | .nx e => some (.nx ⟨e.s.set i .un, e.t⟩)
  | .bk e => some (.bk ⟨e.s.set i .un, e.t⟩)
  | .ct e => some (.ct ⟨e.s.set i .un, e.t⟩)
  | .rt x T => some (.rt x T)
  | .ex _ _ _ _ => none
open Classical in
noncomputable def tryPick (i : Nat) (S : Addr → Addr → Addr → SX) (c : Str) (ns : List Str) (ds : List D) (e : Ev) : Option OutX :=
  if h : ∃ out, ∀ a dx C, ((S a dx C) ⟨e.s.set i (.exo a dx C c ns ds), e.t⟩).bind (wipeO i) = some out then some (Classical.choose h) else none
theorem tryPick_at {i : Nat} {S : Addr → Addr → Addr → SX} {c : Str} {ns : List Str} {ds : List D} {e : Ev} {out : OutX} (h : ∀ a dx C, ((S a dx C) ⟨e.s.set i (.exo a dx C c ns ds), e.t⟩).bind (wipeO i) = some out) : tryPick i S c ns ds e = some out := by
  have he : ∃ out, ∀ a dx C, ((S a dx C) ⟨e.s.set i (.exo a dx C c ns ds), e.t⟩).bind (wipeO i) = some out := ⟨out, h⟩
  unfold tryPick
  rw [dif_pos he]
  have := Classical.choose_spec he 0 0 0
  rw [h 0 0 0] at this
  exact this.symm
theorem tryPick_ok {i : Nat} {S : Addr → Addr → Addr → SX} {c : Str} {ns : List Str} {ds : List D} {e : Ev} {out : OutX} (h : tryPick i S c ns ds e = some out) (a dx C : Addr) : ((S a dx C) ⟨e.s.set i (.exo a dx C c ns ds), e.t⟩).bind (wipeO i) = some out := by
  unfold tryPick at h
  split at h
  · rename_i he
    cases h
    exact Classical.choose_spec he a dx C
  · cases h
noncomputable def tryK (i : Nat) (cs : List Str) (S : Addr → Addr → Addr → SX) (o : OutX) : Option OutX := match o with
  | .ex c ns xs e => if c ∈ cs ∧ ns ≠ [] then (pures xs).bind fun ds => tryPick i S c ns ds e else none
  | o => some o
noncomputable def zTryAs (i : Nat) (cs : List Str) (B : SX) (S : Addr → Addr → Addr → SX) : SX := fun env => (B env).bind (tryK i cs S)
@[simp] theorem zTryAs_eq {i : Nat} {cs : List Str} {B : SX} {S : Addr → Addr → Addr → SX} {env : Ev} : zTryAs i cs B S env = (B env).bind (tryK i cs S) := rfl
@[simp] theorem tryK_nx {i : Nat} {cs : List Str} {S : Addr → Addr → Addr → SX} {e : Ev} : tryK i cs S (.nx e) = some (.nx e) := rfl
@[simp] theorem tryK_rt {i : Nat} {cs : List Str} {S : Addr → Addr → Addr → SX} {x : HV} {T : Tb} : tryK i cs S (.rt x T) = some (.rt x T) := rfl
def W0x : WX := fun _ _ _ _ => False
/-- what the suite wishes, by the exception's address, class and dict -/
def tsE (Z : Zc) (S : Addr → Addr → Addr → SX) : Addr → Value → Option Addr → TS := fun a cls d D σ H => ∃ C dx, cls = .ref C ∧ d = some dx ∧ tSX Z W0x (S a dx C) D σ H
section
variable {X : Cx} {cl : Str → Option Addr} {W : WX} {x n : Str} {c : Value} {i : Nat} {body suite : List Stmt} {b₀ : Stmt} {np pos pos' : Pos} {B : SX} {S : Addr → Addr → Addr → SX} {cs : List Str} {j : Nat}
theorem jz_tryAs (hX : XS X) (tk : L2N.Takes X W) (hr : Room j X.A) (hs : X.stack = X.env :: X.outer) (hf : X.env.frame = some X.env.locals) (hc : Names X x c)
    (hcs : ∀ c' ∈ cs, ∀ C, cl c' = some C → PySem.W.exmOne X.K (.ref C) c = some true)
    (hb : ∀ (W' : WX) (pn : List (Addr × Obj)) (xe : Value → Shared → Prop), L2N.Takes (X.tr pn xe) W' → XS (X.tr pn xe) → Room j (X.tr pn xe).A → PSs (X.tr pn xe) body (tSX (zx X cl) W' B))
    (hsu : ∀ (a dx C : Addr) (oe : Obj) (pn : List (Addr × Obj)), L2N.Zn (.ref C) (some dx) oe → (∃ vs, oe.data = .fields vs) → XS0 (X.suite a ((a, oe) :: pn)) → L2H.HotC (X.suite a ((a, oe) :: pn)) → L2H.RoomH j (X.suite a ((a, oe) :: pn)).A → PSs (X.suite a ((a, oe) :: pn)) (b₀ :: suite) (tSX (zx X cl) W0x (S a dx C)))
    (hi : X.N[i]? = some n := by rfl) (hln : X.env.kindOf n = some .local := by rfl) :
    PS X (.Try body [.ExceptHandler (some (.Name x np)) (some n) (b₀ :: suite) pos'] [] [] pos) (tSX (zx X cl) W (zTryAs i cs B S)) := by
  refine ps_w (L2N.ps_try_as hs hf hX.nd hi hln hc tk (tb := fun W' => tSX (zx X cl) W' B) (ts := tsE (zx X cl) S) (fun W' pn xe t _ => hb W' pn xe t ⟨hX.calm, hX.nd, hX.hu⟩ hr) (fun a oe cls d pn hz hv => ⟨fun pins s σ H D I h => ?_⟩)) fun D σ H h => ?_
  · obtain ⟨C, dx, rfl, rfl, h⟩ := h
    obtain ⟨vs, hv2⟩ := hv
    exact (hsu a dx C oe pn hz ⟨vs, hv2⟩ ⟨hX.nd, hX.hu⟩ ⟨(a, oe), ⟨rfl, vs, hv2, hz.2.2 vs hv2⟩, List.mem_cons_self⟩ ⟨hr.dp, hr.un⟩).run pins s σ H D I h
  · obtain ⟨env, w, out, eH, k, hr2, q⟩ := h
    subst eH
    obtain ⟨o, h1, h2⟩ := Option.bind_eq_some_iff.mp hr2
    refine ⟨env, w, o, rfl, k, h1, ?_⟩
    cases o with
    | nx e => cases h2; exact q
    | rt x T => cases h2; exact q
    | bk e => cases h2; exact q
    | ct e => cases h2; exact q
    | ex cn ns xs e =>
      have h2 : (if cn ∈ cs ∧ ns ≠ [] then (pures xs).bind fun ds => tryPick i S cn ns ds e else none) = some out := h2
      split at h2
      case isFalse => cases h2
      rename_i hcn
      obtain ⟨hcn, hne⟩ := hcn
      obtain ⟨ds, h3, h4⟩ := Option.bind_eq_some_iff.mp h2
      intro cls d σ' w2 g2 k2 ex
      obtain ⟨C, hcl, rfl, h5⟩ := ex
      rcases h5 with ⟨z, _⟩ | ⟨dx, vs, rfl, h6, h7, h8⟩
      · exact absurd z hne
      refine ⟨true, hcs cn hcn C hcl, fun _ a na => ⟨C, dx, rfl, rfl, ?_⟩, fun z => nomatch z⟩
      obtain ⟨o3, h9, h10⟩ := Option.bind_eq_some_iff.mp (tryPick_ok h4 a dx C)
      have hrp := pures_rpN h3 h8
      have k3 := ent_wok k2 h6
      have k4 := wok_slot k3 i (some (.ref a)) (.exo a dx C cn ns ds) ⟨vs, rfl, hcl, upd_same, h7, hrp⟩ (fun _ z => nomatch z)
      have g3 := g2.trans (ent_gs k2.wf h6)
      refine ⟨_, ent w2 dx (ns.zip vs), o3, rfl, k4, h9, ?_⟩
      have q := q.mono g3
      cases o3 with
      | nx e3 => cases h10; exact fun σ4 w4 g4 k5 => q _ w4 g4 (wok_slot k5 i none .un trivial (fun _ z => nomatch z))
      | rt x T => cases h10; exact q
      | bk e3 => cases h10; exact fun σ4 w4 g4 k5 => q _ w4 g4 (wok_slot k5 i none .un trivial (fun _ z => nomatch z))
      | ct e3 => cases h10; exact fun σ4 w4 g4 k5 => q _ w4 g4 (wok_slot k5 i none .un trivial (fun _ z => nomatch z))
      | ex _ _ _ _ => cases h10
end
end Vf
namespace Vf
open PySem L2
/-! ### pure defs called in the suite of a caught exception; what else such a suite says -/
structure CaS (P : Program) (w : World) (K : PySem.W.Frag) (mg : Str → Option Value) (base : Heap) (cl : Str → Option Addr) (k : Nat) (x : Str) (ps : List Str) (g : List TD → Option TD) : Prop where
  ex : ∃ f fd, L2H.FnH P w K mg base CX0 k f fd ps (spG ⟨K, cl⟩ g) ∧ mg x = some (.ref f) ∧ PySem.W.keepIn K (.ref f) = true ∧ Binds K fd ps []
  ok : ∀ rs r, g rs = some r → okT r.1 = true
section
variable {X : Cx} {cl : Str → Option Addr} {W : WX} {ps : List Str} {gg : List TD → Option TD} {k j : Nat} {a e : Expr} {es : List Expr} {fa : FA} {pos : Pos} {f : FX}
theorem jcH {x : Str} {p : Pos} (C : CaS X.prog X.w X.K X.mg X.base cl k x ps gg) (hr : L2H.RoomH j X.A) (hc : L2H.HotC X) (ha : PA X (a :: es) (tA (zx X cl) fa)) (hkj : k ≤ j := by decide) (hg : Gl X x := by rfl) (hdb : (x == ("__debug__" : Str)) = false := by decide)
    (he : starEach (a :: es) X.env = (false, eval a X.env) :: starEach es X.env := by rfl) (hpl : (backTo pos (starEach es X.env)).any (·.1) = false := by rfl) : PE X (.Call (.Name x p) (a :: es) [] pos) (tE (zx X cl) (sCall gg fa)) := by
  obtain ⟨f, fd, F, hm, hk, hb⟩ := C.ex
  refine pe_w (L2H.pe_callH (E := fun _ => E0) F (hr.mono hkj) hc hg hm hk hb (fun _ _ _ _ _ _ _ z => z.elim) ha hdb he hpl) fun σ H Q hh => ?_
  obtain ⟨env, w, rs, e1, kk, h1, q⟩ := sCall_rd (E := E0) C.ok hh
  refine ⟨env, w, rs, e1, kk, h1, fun vs w1 g1 r1 => ?_⟩
  have : spG (zx X cl) gg (vs ++ []) w1.H Q E0 := q vs w1 g1 r1
  rw [List.append_nil] at this
  exact this
end
section
variable {P : Program} {w : World} {K : PySem.W.Frag} {mg : Str → Option Value} {base : Heap} {cl : Str → Option Addr}
theorem ok_defS {x qual : Str} {st : Stmt} {f : Addr} {fd : FuncData} {N ps : List Str} {k : Nat} {g : List TD → Option TD} {B : FS} (F : Fun K x qual st f fd) (S : FnScope N ps (defScope st)) (har : ∀ rs r, g rs = some r → rs.length = ps.length)
    (hb : ∀ (cdv : Value) (A : Around) (outer : List Env) (s : Shared) (H : Hp) (E : XK) (p : Addr × Obj), L2H.RoomH k (A.deeper (PyProof.Rows.envOfC qual (defScope st) s.heap.objs.size f cdv)) → XS0 (L2H.cxH CX0 P w K mg base N qual (defScope st) f cdv A outer s H E p) →
      PSs (L2H.cxH CX0 P w K mg base N qual (defScope st) f cdv A outer s H E p) (defBody st) (tS ⟨K, cl⟩ B))
    (hsem : ∀ rs r, rs.all (fun r => okT r.1) = true → g rs = some r → (B (env0 N.length rs)).bind fin = some r) : L2H.FnH P w K mg base CX0 (k + 1) f fd ps (spG ⟨K, cl⟩ g) := by
  obtain ⟨c1, c2, c3, c4, c5, c6, c7, c8, c9, rfl, look, code⟩ := F.ex
  refine L2H.fn_ofH look code S (fun vs H Q E h => ?_) fun A outer s H vs Q E p hot hr h => ?_
  · obtain ⟨N', rs, r, _, h1, _, h2, _⟩ := h
    rw [h1.length, har _ _ h2]
  · obtain ⟨N', rs, r, h0, h1, h2, h3, h4, q⟩ := h
    have hX : XS0 (L2H.cxH CX0 P w K mg base N qual (defScope st) f c7 A outer s H E p) := ⟨S.nd, by have := hr.un; show (A.deeper _).units + 65 < cLine; omega⟩
    refine ⟨_, hb c7 A outer s H E p hr hX, ?_⟩
    obtain ⟨out, e1, e2⟩ := Option.bind_eq_some_iff.mp (hsem rs r h2 h3)
    have hle : rs.length ≤ N.length := by
      have := congrArg List.length S.pre
      rw [List.length_take] at this
      have := har _ _ h3
      omega
    refine ⟨env0 N.length rs, ⟨N', H, H, []⟩, out, rfl, wok_start h0 h1 h2 hle, e1, ?_⟩
    cases out with
    | nx e' =>
      cases e2
      exact fun σ' w' gs k' => q .non ⟨w'.N, w'.B, w'.H, []⟩ gs.gr (nN .non rfl)
    | bk e' => cases e2
    | ct e' => cases e2
    | rth x T =>
      cases x with
      | ob n => cases e2
      | pu d =>
        cases e2
        exact fun v w' gs hv _ => q v ⟨w'.N, w'.B, w'.H, []⟩ gs.gr hv
    | rt r0 =>
      obtain ⟨t, d⟩ := r0
      cases t with
      | N =>
        cases e2
        exact fun v w' gs rv => q v ⟨w'.N, w'.B, w'.H, []⟩ gs.gr rv
      | B =>
        cases e2
        exact fun v w' gs rv => q v ⟨w'.N, w'.B, w'.H, []⟩ gs.gr rv
      | T => cases e2
      | O =>
        cases e2
        intro v w' gs rv
        obtain ⟨p, vs', ds, rfl, rfl, a1, a2, a3⟩ := rv
        obtain ⟨w2, g2, e3, r3⟩ := adopt (Z := ⟨K, cl⟩) (t := .N) gs.gr (by decide) (gs.b.free a2) a1 a2 a3
        show Q _ w'.H
        rw [← e3]
        exact q _ w2 g2 r3
theorem ca_defS {x : Str} {st : Stmt} {f : Addr} {fd : FuncData} {N ps : List Str} {k : Nat} {g : List TD → Option TD} {B : FS} (D : Df K mg x st f fd) (S : FnScope N ps (defScope st)) (har : ∀ rs r, g rs = some r → rs.length = ps.length)
    (hok : ∀ rs r, g rs = some r → okT r.1 = true) (hbi : Binds K fd ps [])
    (hb : ∀ (cdv : Value) (A : Around) (outer : List Env) (s : Shared) (H : Hp) (E : XK) (p : Addr × Obj), L2H.RoomH k (A.deeper (PyProof.Rows.envOfC x (defScope st) s.heap.objs.size f cdv)) → XS0 (L2H.cxH CX0 P w K mg base N x (defScope st) f cdv A outer s H E p) →
      PSs (L2H.cxH CX0 P w K mg base N x (defScope st) f cdv A outer s H E p) (defBody st) (tS ⟨K, cl⟩ B))
    (hsem : ∀ rs r, rs.all (fun r => okT r.1) = true → g rs = some r → (B (env0 N.length rs)).bind fin = some r) : CaS P w K mg base cl (k + 1) x ps g :=
  ⟨⟨f, fd, ok_defS D.fn S har hb hsem, D.gm, D.fn.kp, hbi⟩, hok⟩
end
end Vf
namespace Vf
open PySem L2
/-! ### what a text says of its classes of errors -/
def XfF (K : PySem.W.Frag) (cl : Str → Option Addr) (cs : List Str) (f : Str) : Prop := ∀ c ∈ cs, ∀ C, cl c = some C → XfC K C ∧ PySem.W.findIn K (.ref C) f = some none
def IsTm (K : PySem.W.Frag) (mg : Str → Option Value) (cl : Str → Option Addr) (tn : Str) (tb : List (Str × Bool)) : Prop := ∃ D, mg tn = some (.ref D) ∧ IsT K cl (.ref D) tb
def XmC (K : PySem.W.Frag) (cl : Str → Option Addr) (c : Value) (cs : List Str) : Prop := ∀ c' ∈ cs, ∀ C, cl c' = some C → PySem.W.exmOne K (.ref C) c = some true
def XmN (K : PySem.W.Frag) (mg : Str → Option Value) (cl : Str → Option Addr) (x : Str) (cs : List Str) : Prop := ∃ c, mg x = some c ∧ XmC K cl c cs
section
variable {K : PySem.W.Frag} {mg : Str → Option Value} {cl : Str → Option Addr} {c f : Str} {C : Addr} {cs : List Str} {tv : Value} {b : Bool} {tb : List (Str × Bool)}
theorem XfF.nil : XfF K cl [] f := fun _ z => by cases z
theorem XfF.cons (e : cl c = some C) (x : XfC K C) (h : PySem.W.findIn K (.ref C) f = some none) (r : XfF K cl cs f) : XfF K cl (c :: cs) f := fun c' hc C' e' => by
  rcases List.mem_cons.mp hc with rfl | hc
  · rw [e] at e'; cases e'; exact ⟨x, h⟩
  · exact r c' hc C' e'
theorem XmC.nil : XmC K cl tv [] := fun _ z => by cases z
theorem XmC.cons (e : cl c = some C) (h : PySem.W.exmOne K (.ref C) tv = some true) (r : XmC K cl tv cs) : XmC K cl tv (c :: cs) := fun c' hc C' e' => by
  rcases List.mem_cons.mp hc with rfl | hc
  · rw [e] at e'; cases e'; exact h
  · exact r c' hc C' e'
theorem IsT.nil : IsT K cl tv [] := fun _ _ z => by cases z
theorem IsT.cons (e : cl c = some C) (x : ExcC K C) (h : PySem.W.kitOne K (.ref C) tv = some b) (r : IsT K cl tv tb) : IsT K cl tv ((c, b) :: tb) := fun c' b' hc C' e' => by
  by_cases q : c' = c
  · subst q
    rw [List.lookup_cons_self] at hc
    cases hc
    rw [e] at e'
    cases e'
    exact ⟨x, h⟩
  · have hb : (c' == c) = false := by simp [q]
    rw [List.lookup_cons, hb] at hc
    exact r c' b' hc C' e'
end
section
variable {X : Cx} {cl : Str → Option Addr} {W : WX} {a dx C : Addr} {oe : Obj} {pn : List (Addr × Obj)} {i : Nat} {n f : Str} {cs : List Str} {p q pos np pos' : Pos}
theorem je_isM {tn : Str} {tb : List (Str × Bool)} (hz : L2N.Zn (.ref C) (some dx) oe) (hf : ∃ vs, oe.data = .fields vs) (hT : IsTm X.K X.mg cl tn tb) (mi : X.mg "isinstance" = none) (hN : X.N[i]? = some n := by rfl) (hgi : Gl X "isinstance" := by rfl) (hgt : Gl X tn := by rfl)
    (hdb : (tn == ("__debug__" : Str)) = false := by decide) (hv : Vis X.env.scope n := by first | exact Or.inl rfl | exact Or.inr (Or.inl rfl) | exact Or.inr (Or.inr rfl))
    (hd : (n == ("__debug__" : Str)) = false := by decide) (hcd : (n == ("__classdict__" : Str)) = false := by decide) (he : starEach [.Name n p, .Name tn q] X.env = (false, eval (.Name n p) X.env) :: starEach [.Name tn q] X.env := by rfl)
    (hpl : (backTo pos (starEach [.Name tn q] X.env)).any (·.1) = false := by rfl) (he2 : starEach [.Name tn q] X.env = (false, eval (.Name tn q) X.env) :: starEach [] X.env := by rfl) {p0 : Pos} :
    PE (X.suite a ((a, oe) :: pn)) (.Call (.Name "isinstance" p0) [.Name n p, .Name tn q] [] pos) (tE (zx X cl) (sIsE a dx C i tb)) := by
  obtain ⟨D, hm, h⟩ := hT
  exact je_isE hz hf h hm mi hN hgi hgt hdb hv hd hcd he hpl he2
theorem jz_tryM {x : Str} {body suite : List Stmt} {b₀ : Stmt} {B : SX} {S : Addr → Addr → Addr → SX} {j : Nat} (hM : XmN X.K X.mg cl x cs) (hX : XS X) (tk : L2N.Takes X W) (hr : Room j X.A) (hs : X.stack = X.env :: X.outer) (hf : X.env.frame = some X.env.locals)
    (hb : ∀ (W' : WX) (pn : List (Addr × Obj)) (xe : Value → Shared → Prop), L2N.Takes (X.tr pn xe) W' → XS (X.tr pn xe) → Room j (X.tr pn xe).A → PSs (X.tr pn xe) body (tSX (zx X cl) W' B))
    (hsu : ∀ (a dx C : Addr) (oe : Obj) (pn : List (Addr × Obj)), L2N.Zn (.ref C) (some dx) oe → (∃ vs, oe.data = .fields vs) → XS0 (X.suite a ((a, oe) :: pn)) → L2H.HotC (X.suite a ((a, oe) :: pn)) → L2H.RoomH j (X.suite a ((a, oe) :: pn)).A → PSs (X.suite a ((a, oe) :: pn)) (b₀ :: suite) (tSX (zx X cl) W0x (S a dx C)))
    (hg : Gl X x := by rfl) (hdb : (x == ("__debug__" : Str)) = false := by decide) (hi : X.N[i]? = some n := by rfl) (hln : X.env.kindOf n = some .local := by rfl) :
    PS X (.Try body [.ExceptHandler (some (.Name x np)) (some n) (b₀ :: suite) pos'] [] [] pos) (tSX (zx X cl) W (zTryAs i cs B S)) := by
  obtain ⟨c, hm, h⟩ := hM
  exact jz_tryAs hX tk hr hs hf ⟨hg, hdb, .inl hm⟩ h hb hsu hi hln
end
/-! ### the __init__ of a class of errors, as a worth -/
def gIni (n N : Nat) (fs : EI) (ds : List D) : Option (List (Str × D)) := if ds.length + 1 = n then evI fs ⟨.un :: (ds.map fun d => .val .N d) ++ List.replicate (N - (ds.length + 1)) .un, []⟩ [] else none
theorem gIni_len {n N : Nat} {fs : EI} {ps : List Str} (hn : n = ps.length := by rfl) : ∀ ds r, gIni n N fs ds = some r → ds.length + 1 = ps.length := fun ds r h => by
  unfold gIni at h
  by_cases z : ds.length + 1 = n
  · rw [← hn]; exact z
  · rw [if_neg z] at h; cases h
theorem gIni_sem {n : Nat} {N : List Str} {fs : EI} : ∀ ds r, gIni n N.length fs ds = some r → evI fs ⟨.un :: (ds.map fun d => .val .N d) ++ List.replicate (N.length - (ds.length + 1)) .un, []⟩ [] = some r := fun ds r h => by
  unfold gIni at h
  by_cases z : ds.length + 1 = n
  · rw [if_pos z] at h; exact h
  · rw [if_neg z] at h; cases h
theorem noF_nil {K : PySem.W.Frag} {C : Addr} : ∀ n f, (n, f) ∈ ([] : EI) → PySem.W.findIn K (.ref C) n = some none := fun _ _ z => by cases z
theorem noF_cons {K : PySem.W.Frag} {C : Addr} {m : Str} {g : FE} {fs : EI} (h : PySem.W.findIn K (.ref C) m = some none) (r : ∀ n f, (n, f) ∈ fs → PySem.W.findIn K (.ref C) n = some none) : ∀ n f, (n, f) ∈ (m, g) :: fs → PySem.W.findIn K (.ref C) n = some none := fun n f z => by
  rcases List.mem_cons.mp z with z | z
  · cases z; exact h
  · exact r n f z
end Vf
namespace Vf
open PySem PySem.Spec PyProof.Rows L2
/-! ### (i, j, (k ..)) < (i, j, (k ..)) -/
end Vf
namespace Vf
open PySem L2
/-! ### for k in d: b[k] = d[k] -/
end Vf
namespace Vf
open PySem L2
/-- where nothing is let out -/
theorem takes0N {X : Cx} : L2N.Takes X (fun _ _ _ _ => False) := fun _ _ x => by
  obtain ⟨_, _, _, _, _, _, _, _, _, _, _, _, _, _, _, _, w⟩ := x
  exact w.elim
end Vf
namespace PySem
namespace HandSPX
section
variable {M : Model} {A : Around} {E : Value → Shared → Prop} {h : Heap} {g : Array GenState} {d : Drawn} {t : Nat} {os : OsState}
variable {nm q : Str} {C N : Addr} {bs bm bmB : List Value} {hdct : Bool} {sn : List Str} {sub : List Value} {ab : Bool} {col : Option Bool} {dd : Option Addr} {k0 k1 k2 k3 k5 : Option Value} {B newId initId : String}
theorem check_new_ownK (F : ExcBaseFacts B newId initId bmB) (hT : ∀ X : String, bm.contains (.type X) = bmB.contains (.type X)) {rest : List Value} {kw : List (Str × Value)} {Q : Unit → Shared → Prop}
    (hC : h.get? C = some (excClassObj nm q C N bs bm hdct sn sub ab col dd k0 k1 k2 k3 k5 newId)) (hq : Q () ⟨h, g, d, t, os⟩) : wpAny M A (checkBuiltinCall newId ⟨.ref C :: rest, kw⟩) Q E ⟨h, g, d, t, os⟩ := by
  have hcont : (Value.ref C :: bm).contains (.type B) = true := by rw [List.contains_cons, hT, F.hasB, Bool.or_true]
  have hstar := F.noStar
  simp only [checkBuiltinCall, F.newKind, F.newSplit, F.newRow]
  repeat (first | refine wpAny_loadPart_at hC ?_ | (refine wpAny_isSubtype_exc hC ?_; rw [hcont]) | refine wpAny_staticBase_exc hC ?_ | refine wpAny_madeBy_exc hC ?_ | simp only [bne_self_eq_false, Bool.false_eq_true, if_false] | wp_step)
  exact hq
end
section
variable {prog : Program} {w : World} {A : Around} {E : Value → Shared → Prop} {R : Result → Shared → Prop} {h : Heap} {g : Array GenState} {d : Drawn} {t : Nat} {os : OsState}
variable {nm q : Str} {C N : Addr} {bs bm bmB : List Value} {hdct : Bool} {sn : List Str} {sub : List Value} {ab : Bool} {col : Option Bool} {dd : Option Addr} {k0 k1 k2 k3 k5 : Option Value} {B newId initId : String}
theorem new_ownK (F : ExcBaseFacts B newId initId bmB) (hT : ∀ X : String, bm.contains (.type X) = bmB.contains (.type X)) {rest : List Value} {kw : List (Str × Value)}
    (hC : h.get? C = some (excClassObj nm q C N bs bm hdct sn sub ab col dd k0 k1 k2 k3 k5 newId))
    (hq : R (.ok (.ret (.ref (h.objs.size + 1)))) ⟨(h.push { cls := .type "tuple", data := .seq rest.toArray }).push
      { cls := .ref C, data := .fields #[.ref h.objs.size, .none, .none, .none, .bool false, .none] }, g, d, t, os⟩) (hrest : rest.length ≤ sizeLine) :
    codeAny (model prog w) A (.builtin newId ⟨.ref C :: rest, kw⟩) R ⟨h, g, d, t, os⟩ := by
  have hends := F.ends
  have hcB : (Value.ref C :: bm).contains (.type B) = true := by rw [List.contains_cons, hT, F.hasB, Bool.or_true]
  have hcA : (Value.ref C :: bm).contains (.type "AttributeError") = false := by rw [List.contains_cons, hT, F.noAttr]; rfl
  have hcN : (Value.ref C :: bm).contains (.type "NameError") = false := by rw [List.contains_cons, hT, F.noName]; rfl
  refine codeAny_builtinAt F.entry ?_
  unfold Builtin.«BaseException.__new__»
  refine wpAt_bind ?_
  show wpAt _ _ _ (stack >>= _) _ _ _
  refine wpAt_bind (wpAt_stack fun p below => wpAt_of_wpAny ?_)
  wp_walk
  refine wpAt_of_wpAny ?_
  rw [F.owner]
  repeat (first | with_reducible refine wpAny_madeHere_exc F.canon hC ?_ | with_reducible refine wpAny_loadPart_at hC ?_ | (with_reducible refine wpAny_isSubtype_exc hC ?_; first | rw [hcB] | rw [hcA] | rw [hcN]) | wp_step)
  show R _ _
  rw [Heap.size_push]
  exact hq
theorem type_call_ownK (F : ExcBaseFacts B newId initId bmB) (hT : ∀ X : String, bm.contains (.type X) = bmB.contains (.type X)) {rest : List Value} {kw : List (Str × Value)} {fI : Addr} {Q : Fin → Shared → Prop}
    (hC : h.get? C = some (excClassObj nm q C N bs bm hdct sn sub ab col dd k0 k1 k2 k3 k5 newId))
    (hi : W.Looks (model prog w) h (typeLookup (.ref C) "__init__") (some (.ref fI))) (hb : ∀ self, W.Looks (model prog w) h (bindSpecial (.ref fI) self) (.ref fI, [self])) (hrest : rest.length ≤ sizeLine)
    (hq : codeAny (model prog w) A (.call (.ref fI) ⟨.ref (h.objs.size + 1) :: rest, kw⟩)
      (fun r s' => match r with | .ok (.ret v) => v = .none ∧ Q (.done (.ret (.ref (h.objs.size + 1)))) s' | .ok _ => False | .error e => E e s')
      ⟨(h.push (W.kdv_tup rest)).push (excO C h.objs.size), g, d, t, os⟩) :
    wpAny (model prog w) A (Builtin.«type.__call__» ⟨.ref C :: rest, kw⟩) Q E ⟨h, g, d, t, os⟩ := by
  repeat (first | with_reducible refine wpAny_loadPart_at hC ?_ | with_reducible refine wpAny_madeBy_exc hC ?_ | wp_step)
  refine codeAny_call_builtin_code (Code.quiet_builtin _ F.quiet) (check_new_ownK F hT hC ?_)
  refine new_ownK F hT hC ?_ hrest
  show wpAny _ _ _ _ _ _
  have k : ∀ b o, h.get? b = some o → ((h.push (W.kdv_tup rest)).push (excO C h.objs.size)).get? b = some o := fun b o e => Heap.get?_push_of_some _ (Heap.get?_push_of_some _ e)
  have hC₁ := k _ _ hC
  have hget : ((h.push (W.kdv_tup rest)).push (excO C h.objs.size)).get? (h.objs.size + 1) = some (excO C h.objs.size) := by heap_get
  have hcC : (Value.ref C :: bm).contains (.ref C) = true := by simp
  have i1 := hi.keeps k
  have b1 := (hb (.ref (h.objs.size + 1))).keeps k
  unfold isInstance
  repeat (first | with_reducible refine wpAny_loadPart_at hget ?_ | (with_reducible refine wpAny_isSubtype_exc hC₁ ?_; rw [hcC]) | wp_step)
  show wpAny _ _ (typeLookup (.ref C) _) _ _ _
  refine i1.at ?_
  refine wpAny_holding (wpAny_bind (b1.at ?_))
  refine wpAny_bind (wpAny_call (codeAny_mono hq fun r s' z => ?_))
  rcases r with e | (v | _ | _ | _) <;> first | exact z | exact z.elim | skip
  obtain ⟨rfl, z⟩ := z
  first
    | exact wpAny_pure (wpAny_pure z)
    | (wp_walk; exact z)
theorem wpAny_check_type_call_subK {M : Model} {rest : List Value} {kw : List (Str × Value)} {Q : Unit → Shared → Prop} (hC : h.get? C = some (excClassObj nm q C N bs bm hdct sn sub ab col dd k0 k1 k2 k3 k5 newId))
    (hq : Q () ⟨h, g, d, t, os⟩) : wpAny M A (checkBuiltinCall "type.__call__" ⟨.ref C :: rest, kw⟩) Q E ⟨h, g, d, t, os⟩ := by
  have f3 := tc_sub
  have hT : (⟨h, g, d, t, os⟩ : Shared).TypeIs (.ref C) "type" := ⟨_, hC, rfl⟩
  simp only [checkBuiltinCall, tc_kind, tc_split]
  repeat (any_goals (first | assumption | with_reducible refine wpAny_loadPart_at hC ?_ | with_reducible refine wpAny_onRaise ?_ | with_reducible refine wpAny_map ?_ | wp_step))
theorem call_ownK (F : ExcBaseFacts B newId initId bmB) (hT : ∀ X : String, bm.contains (.type X) = bmB.contains (.type X)) {rest : List Value} {kw : List (Str × Value)} {fI : Addr}
    (hC : h.get? C = some (excClassObj nm q C N bs bm hdct sn sub ab col dd k0 k1 k2 k3 k5 newId))
    (hi : W.Looks (model prog w) h (typeLookup (.ref C) "__init__") (some (.ref fI))) (hb : ∀ self, W.Looks (model prog w) h (bindSpecial (.ref fI) self) (.ref fI, [self])) (hrest : rest.length ≤ sizeLine)
    (hq : codeAny (model prog w) (A.under (.builtin "type.__call__" ⟨.ref C :: rest, kw⟩)) (.call (.ref fI) ⟨.ref (h.objs.size + 1) :: rest, kw⟩) (W.InitBack (h.objs.size + 1) R)
      ⟨(h.push (W.kdv_tup rest)).push (excO C h.objs.size), g, d, t, os⟩) :
    codeAny (model prog w) A (.call (.ref C) ⟨rest, kw⟩) R ⟨h, g, d, t, os⟩ := by
  have f1 := tc_lookup
  have f2 := tc_bind (.ref C)
  have hTy : (⟨h, g, d, t, os⟩ : Shared).TypeIs (.ref C) "type" := ⟨_, hC, rfl⟩
  refine codeAny_of_tree ?_
  show wpAny _ _ (callAny (.ref C) _) _ _ _
  repeat (any_goals (first | assumption | with_reducible refine wpAny_loadPart_at hC ?_ | wp_step))
  refine ⟨rfl, ?_⟩
  refine codeAny_call_builtin_at (Code.quiet_builtin _ (by decide +kernel)) entry_typeCall (wpAny_check_type_call_subK hC (type_call_ownK F hT hC hi hb hrest ?_))
  refine codeAny_mono hq fun r s' z => ?_
  rcases r with e | (v | _ | _ | _) <;> exact z
end
end HandSPX
end PySem
namespace Vf
open PySem L2
/-! ### own exceptions as values -/
def exnK (c : Str) (g : List D → Option (List (Str × D))) (n : Nat) (π : List Nat) (xs : List HV) (T : Tb) : Option (XRes HV) :=
  if xs.length = n ∧ n ≤ 1000 then (pures (permH π xs)).bind fun ds => (g ds).bind fun out => if out.isEmpty then none else some (.val (.pu (.exn c (out.map (·.1)) (out.map (·.2)))) T) else none
/-- C(f = e, ..), C a class of errors: a tree -/
def xMakeE (c : Str) (g : List D → Option (List (Str × D))) (n : Nat) (π : List Nat) (fa : FXA) : FX := fun env => bX (fa env) (exnK c g n π)
@[simp] theorem xMakeE_eq {c : Str} {g : List D → Option (List (Str × D))} {n : Nat} {π : List Nat} {fa : FXA} {env : Ev} : xMakeE c g n π fa env = (fa env).bind (kX (exnK c g n π)) := rfl
def xMakeE0 (c : Str) : FX := fun env => some (.val (.pu (.exn c [] [])) env.t)
@[simp] theorem xMakeE0_eq {c : Str} {env : Ev} : xMakeE0 c env = some (.val (.pu (.exn c [] [])) env.t) := rfl
theorem exnK_at {c : Str} {g : List D → Option (List (Str × D))} {n : Nat} {π : List Nat} {xs : List HV} {T : Tb} {ds : List D} {out : List (Str × D)} (h1 : xs.length = n) (h2 : n ≤ 1000) (h3 : pures (permH π xs) = some ds) (h4 : g ds = some out) (h5 : out.isEmpty = false) :
    exnK c g n π xs T = some (.val (.pu (.exn c (out.map (·.1)) (out.map (·.2)))) T) := by
  unfold exnK
  rw [if_pos ⟨h1, h2⟩, h3, Option.bind_some, h4, Option.bind_some, h5]
  rfl
structure RaXK (P : Program) (w : World) (K : PySem.W.Frag) (mg : Str → Option Value) (base : Heap) (cl : Str → Option Addr) (k : Nat) (c : Str) (ps ks : List Str) (π : List Nat) (g : List D → Option (List (Str × D))) : Prop where
  ex : ∃ C f fd, OexC K C ∧ PySem.W.findIn K (.ref C) "__init__" = some (some (.ref f)) ∧ PySem.W.typeIn K (.ref f) = some (.type "function") ∧ FnOk P w K mg base (L2N.CX P w) k f fd ps (spI ⟨K, cl⟩ C g) ∧ mg c = some (.ref C) ∧ cl c = some C ∧ KwOk fd ps ks 1 π
abbrev veB : List Value := [.type "ValueError", .type "Exception", .type "BaseException", .type "object"]
structure RaX0 (K : PySem.W.Frag) (mg : Str → Option Value) (cl : Str → Option Addr) (c : Str) : Prop where
  ex : ∃ C, PySem.W.excIn K C veB "ValueError.__new__" = true ∧ PySem.W.keepIn K (.ref C) = true ∧ mg c = some (.ref C) ∧ cl c = some C
section
variable {X : Cx} {cl : Str → Option Addr} {W : WX} {c : Str} {C fI : Addr} {k j : Nat} {fd : FuncData} {ps ks : List Str} {π : List Nat} {g : List D → Option (List (Str × D))} {kws : List Keyword} {fa : FXA} {p pos : Pos}
theorem run_oexK {pins : List (Addr × Obj)} {σ : L2.St} {H1 : Hp} {s1 : Shared} {Q : VK} {ws : List Value} {zs : List V} {sp : Sp} (T : OexC X.K C) (iC : PySem.W.findIn X.K (.ref C) "__init__" = some (some (.ref fI))) (tI : PySem.W.typeIn X.K (.ref fI) = some (.type "function"))
    (F1 : FnOk X.prog X.w X.K X.mg X.base (L2N.CX X.prog X.w) k fI fd ps sp) (hr : Room (k + 1) X.A) (hb : KwOk fd ps ks 1 π) (I1 : Inv X pins σ H1 s1) (r1 : Vals zs ws) (hz : zs.length = ks.length)
    (h : ∀ a, H1 a = none → sp (.ref a :: permW π zs) (upd H1 a (exo a C none)) (fun v H2 => v = .non ∧ Q (.ref a) H2) (fun _ _ _ => False)) :
    wpAny (model X.prog X.w) X.A (call (.ref C) [] (ks.zip ws)) (EP X pins σ Q) X.xe s1 := by
  obtain ⟨nm, q, N, bs, bm, sn, sub, ab, col, dd, k0, k1, k2, k3, k5, hC, hbm⟩ := T.cls
  obtain ⟨hp, g, dr, tk, os⟩ := s1
  have hget : ((hp.push (PySem.W.kdv_tup [])).push (PySem.HandSPX.excO C hp.objs.size)).get? (hp.objs.size + 1) = some (PySem.HandSPX.excO C hp.objs.size) := by heap_get
  have up : hp.objs.size ≤ hp.objs.size + 1 := Nat.le_succ _
  have none_ : H1 (hp.objs.size + 1) = none := I1.hok.fresh up
  have go := h (hp.objs.size + 1) none_
  have I2 := I1.laid (t' := tk) (a := hp.objs.size + 1) (o := exo (hp.objs.size + 1) C none) (h' := (hp.push (PySem.W.kdv_tup [])).push (PySem.HandSPX.excO C hp.objs.size)) (fun b o e => Heap.get?_push_of_some _ (Heap.get?_push_of_some _ e)) up (exo_ok hget)
  have r2 : Vals (V.ref (hp.objs.size + 1) :: permW π zs) (Value.ref (hp.objs.size + 1) :: permV π ws) := .cons rfl (vals_perm r1 π)
  have b := fun s => hb.to s [Value.ref (hp.objs.size + 1)] ws rfl (by rw [← r1.length]; exact hz)
  have hx : Passes (L2N.CX X.prog X.w) X (fun _ _ _ => False) := fun pins σ H s e s' _ h => by
    obtain ⟨_, _, _, _, _, _, _, _, _, _, _, _, z⟩ := h
    exact z.elim
  refine wpAny_call (PySem.HandSPX.call_ownK F.excBase_ValueError (fun Y => PySem.HandSPX.refsVE_contains Y bm hbm) (I1.kIn _ _ hC) (PySem.W.looks_findIn I1.kIn iC) (fun self => PySem.W.bind_fn I1.kIn self tI) (by show 0 ≤ sizeLine; omega)
    (codeAny_mono (F1.run _ X.stack _ _ ⟨Value.ref (hp.objs.size + 1) :: [], ks.zip ws⟩ (Value.ref (hp.objs.size + 1) :: permV π ws) _ _ (fun _ _ _ => False) (hr.make C [] (ks.zip ws)) (I2.env0.make C [] (ks.zip ws)) (b _) r2 go) fun r s' hq' => ?_))
  cases r with
  | error er => exact hx pins σ _ _ er s' I2 hq'
  | ok fl =>
    cases fl with
    | ret u =>
      obtain ⟨v, H', I3, rv, ev, q3⟩ := I2.after hq'
      subst ev
      exact ⟨rv, V.ref (hp.objs.size + 1), H', I3, rfl, q3⟩
    | next => exact False.elim hq'
    | brk => exact False.elim hq'
    | cont => exact False.elim hq'
/-- the new exception becomes a tree -/
theorem exn_lay {Z : Zc} {w1 w' : Wd} {a : Addr} {sv : List (Str × V)} {o : List (Str × D)} (k1 : Wf w1) (hcl : Z.cl c = some C) (na : w1.H a = none) (g' : Gs ⟨w1.N, w1.H, upd w1.H a (exo a C none), []⟩ w') (ia : IniAt w' a C sv) (so : StOk Z w' sv o) (hemp : o.isEmpty = false) :
    ∃ w2 : Wd, w2.H = w'.H ∧ Gr w1 w2 ∧ Rp Z w2.N (.ref a) (.exn c (o.map (·.1)) (o.map (·.2))) := by
  have hne : sv ≠ [] := fun z => by
    have := so.1
    rw [z] at this
    cases o with
    | nil => cases hemp
    | cons _ _ => cases this
  rcases ia with ⟨a0, ⟨z, _⟩ | ⟨dx, d0, dne, ea, ed⟩⟩
  · exact absurd z hne
  have HB : ∀ b u, w1.H b = some u → w'.B b = some u := fun b u z => g'.b b u z
  have hd1 : w1.H dx = none := by
    cases z : w1.H dx with
    | none => rfl
    | some u => rw [HB _ _ z] at d0; cases d0
  have nN : ∀ {b}, w'.B b = none → w'.N b = none := fun {b} z => g'.wf.nb.free z
  let N2 : Hp := upd (upd w'.N a (exo a C (some dx))) dx (exd dx sv)
  have N2a : N2 a = some (exo a C (some dx)) := by show upd _ _ _ _ = _; rw [upd_ne (Ne.symm dne), upd_same]
  have N2d : N2 dx = some (exd dx sv) := upd_same
  have N2o : ∀ b, b ≠ a → b ≠ dx → N2 b = w'.N b := fun b z1 z2 => by show upd _ _ _ _ = _; rw [upd_ne z2, upd_ne z1]
  have N2s : Same w'.N N2 := fun b u z => by
    rw [N2o b (fun e => by rw [e, nN a0] at z; cases z) (fun e => by rw [e, nN d0] at z; cases z)]
    exact z
  have N2H : ∀ b u, N2 b = some u → w'.H b = some u := fun b u z => by
    by_cases e1 : b = dx
    · subst e1; rw [N2d] at z; cases z; exact ed
    · by_cases e2 : b = a
      · subst e2; rw [N2a] at z; cases z; exact ea
      · rw [N2o b e2 e1] at z; exact g'.wf.nh _ _ z
  have N2f : ∀ b, N2 b ≠ none → w1.N b ≠ none ∨ w1.H b = none := fun b z => by
    by_cases e1 : b = dx
    · subst e1; exact .inr hd1
    · by_cases e2 : b = a
      · subst e2; exact .inr na
      · rw [N2o b e2 e1] at z; exact g'.fn b z
  let B2 : Hp := fun b => match w1.B b with | some u => some u | none => N2 b
  have B2a : ∀ b u, w1.B b = some u → B2 b = some u := fun b u z => by show (match w1.B b with | some u => some u | none => N2 b) = _; rw [z]
  have B2b : ∀ b, w1.B b = none → B2 b = N2 b := fun b z => by show (match w1.B b with | some u => some u | none => N2 b) = _; rw [z]
  have wf2 : Wf ⟨N2, B2, w'.H, w1.m⟩ := by
    refine ⟨fun b u z => ?_, fun b u z => ?_⟩
    · cases y : w1.B b with
      | none => exact (B2b b y).trans z
      | some u' =>
        have y1 := g'.wf.bh _ _ (HB b u' (k1.bh _ _ y))
        have y2 := N2H b u z
        rw [y1] at y2
        cases y2
        exact B2a b u y
    · cases y : w1.B b with
      | some u' =>
        have z : B2 b = some u := z
        rw [B2a b u' y] at z
        cases z
        exact g'.wf.bh _ _ (HB b u (k1.bh _ _ y))
      | none =>
        have z : B2 b = some u := z
        rw [B2b b y] at z
        exact N2H b u z
  refine ⟨⟨N2, B2, w'.H, w1.m⟩, rfl, ⟨wf2, fun b u z => N2s b u (g'.n b u z), fun b u z => B2a b u z, fun b u z => g'.wf.bh _ _ (HB b u z), N2f, fun b z => ?_, rfl⟩, ?_⟩
  · cases y : w1.B b with
    | some u' => exact .inl (fun z => nomatch z)
    | none =>
      have z : B2 b ≠ none := z
      rw [B2b b y] at z
      rcases N2f b z with q1 | q1
      · cases y2 : w1.N b with
        | none => exact absurd y2 q1
        | some u' => rw [k1.nb _ _ y2] at y; cases y
      · exact .inr q1
  · refine .exn (C := C) (od := some dx) (vs := sv.map (·.2)) N2a (.inr ⟨dx, rfl, ?_⟩) hcl ?_ (RpL.mono N2s so.2)
    · rw [← so.1, zip_unz]; exact N2d
    · have := congrArg List.length so.1
      simpa using this
theorem jx_makeE {n : Nat} (M : RaXK X.prog X.w X.K X.mg X.base cl k c ps ks π g) (hr : Room j X.A) (hkw : PK X kws (tXA (zx X cl) W fa)) (hks : (backToKw pos (keywordEach kws X.env)).filterMap (·.1) = ks := by rfl) (hn : ks.length = n := by rfl) (hkj : k + 1 ≤ j := by decide) (hg : Gl X c := by rfl)
    (hdb : (c == ("__debug__" : Str)) = false := by decide) (hall : (backToKw pos (keywordEach kws X.env)).all (·.1.isSome) = true := by rfl)
    (hpl : ((backTo pos (starEach [] X.env)).any (·.1) || (backToKw pos (keywordEach kws X.env)).any (·.1.isNone)) = false := by rfl) : PE X (.Call (.Name c p) [] kws pos) (tX (zx X cl) W (xMakeE c g n π fa)) := by
  subst hn
  obtain ⟨C, fI, fd, O, iC, tI, F, hm, hcl, hb⟩ := M.ex
  refine ⟨fun pins s σ H Q I hh => ?_⟩
  refine wpAny_Call_Name_kw (ld_glob I hg hm ?_ hdb)
  refine PySem.W.callWith_KW0 (h₀ := X.base) I.ok.mod.kin O.kC hall ?_ hpl
  obtain ⟨env, w, r, e, kk, h, q⟩ := hh
  subst e
  have hh : tXA (zx X cl) W fa σ w.H fun zs H2 => zs.length = ks.length ∧ ∀ a, H2 a = none → spI (zx X cl) C g (.ref a :: permW π zs) (upd H2 a (exo a C none)) (fun v H3 => v = .non ∧ Q (.ref a) H3) (fun _ _ _ => False) := by
    refine tXA_bind kk h q.late fun xs T1 vs w1 h1 g1 k1 hxs => ?_
    unfold exnK at h1
    split at h1
    · rename_i hl
      obtain ⟨ds, e1, h1⟩ := Option.bind_eq_some_iff.mp h1
      obtain ⟨o, e2, h1⟩ := Option.bind_eq_some_iff.mp h1
      split at h1
      · cases h1
      · rename_i hemp
        cases h1
        refine ⟨by rw [hxs.length]; exact hl.1, fun a na => ⟨w1.N, w1.H, a, permW π vs, ds, o, rfl, na, rfl, k1.wf.nh, pures_rpN e1 (hvs_perm hxs π), O, e2, fun w' sv' g' ia so => ⟨rfl, ?_⟩⟩⟩
        obtain ⟨w2, eH, gr, rp⟩ := exn_lay (Z := zx X cl) k1.wf hcl na g' ia so (by simpa using hemp)
        rw [← eH]
        exact q _ w2 (g1.trans (Gr.gs k1.wf gr)) (k1.mono gr) rp
    · cases h1
  refine thn (hkw.run pos pins s σ w.H _ I hh) fun ws s2 ⟨zs, H2, I2, rz, l1, q2⟩ => ⟨I2.kIn, ?_⟩
  rw [hks]
  exact run_oexK O iC tI F (hr.mono hkj) hb I2 rz l1 q2
theorem jx_makeE0 (M : RaX0 X.K X.mg cl c) (hg : Gl X c := by rfl) (hdb : (c == ("__debug__" : Str)) = false := by decide) : PE X (.Call (.Name c p) [] [] pos) (tX (zx X cl) W (xMakeE0 c)) := by
  obtain ⟨C, q, kC, hm, hcl⟩ := M.ex
  refine ⟨fun pins s σ H Q I hh => ?_⟩
  obtain ⟨env, w, r, e, kk, h, qq⟩ := hh
  subst e
  cases h
  refine wpAny_Call_Name_kw (ld_glob I hg hm ?_ hdb)
  refine PySem.W.callWith_K0 I.kIn kC ?_
  show wpAny _ _ (call (.ref C) []) _ _ _
  obtain ⟨bm, N, nm, qn, bs, hdct, sn, sub, ab, col, dd, k0, k1, k2, k3, k5, mN, hC, hN, hni, T⟩ := exc_obj I.kIn q
  refine wpAny_call_exc_subT F.excBase_ValueError T hC hN hni (fun h' a hm => ?_) (by show 0 ≤ sizeLine; omega)
  have hn : w.H a = none := I.hok.gone hm.new
  obtain ⟨t, ht, _, _⟩ := hm.there
  have gp := Gr.put kk.wf (t := .N) (o := exo a C none) hn
  refine ⟨.ref a, upd w.H a (exo a C none), I.laidN hm.keeps hm.new hn (exo_ok ht), rfl, ?_⟩
  exact qq _ (w.put .N a (exo a C none)) (Gr.gs kk.wf gp) (kk.mono gp) (.exn (vs := []) upd_same (.inl ⟨rfl, rfl⟩) hcl rfl .nil)
end
end Vf
namespace Vf
open PySem L2
/-! ### reading an exception that is a tree -/
theorem RV.exn {Z : Zc} {w : Wd} (hw : Wf w) {t : Tg} {c : Str} {ns : List Str} {ds : List D} {v : V} (h : RV Z w (t, .exn c ns ds) v) :
    ∃ (a C : Addr) (od : Option Addr) (vs : List V), v = .ref a ∧ w.H a = some (exo a C od) ∧ (od = none ∧ ns = [] ∨ ∃ dx, od = some dx ∧ w.H dx = some (exd dx (ns.zip vs))) ∧ Z.cl c = some C ∧ vs.length = ns.length ∧ RpL Z (w.rd (el t)) vs ds := by
  cases t with
  | N => cases h with | exn h1 h2 h3 h4 h5 => exact ⟨_, _, _, _, rfl, hw.nh _ _ h1, h2.imp id (fun ⟨dx, e1, e2⟩ => ⟨dx, e1, hw.nh _ _ e2⟩), h3, h4, h5⟩
  | B => cases h with | exn h1 h2 h3 h4 h5 => exact ⟨_, _, _, _, rfl, hw.bh _ _ h1, h2.imp id (fun ⟨dx, e1, e2⟩ => ⟨dx, e1, hw.bh _ _ e2⟩), h3, h4, h5⟩
  | T => cases h with | exn h1 h2 h3 h4 h5 => exact ⟨_, _, _, _, rfl, h1, h2, h3, h4, h5⟩
  | O => obtain ⟨p, vs, es, e, e2, _⟩ := h; cases e2
def exnF (f : Str) (cs : List Str) (x : TD) : Option TD := match x.2 with
  | .exn c ns ds => if c ∈ cs then ((ns.zip ds).lookup f).map fun d => nm (el x.1, d) else none
  | _ => none
/-- e.f of an exception that is a tree -/
def sExnF (f : Str) (cs : List Str) (g : FE) : FE := fun env => (g env).bind (exnF f cs)
@[simp] theorem sExnF_eq {f : Str} {cs : List Str} {g : FE} {env : Ev} : sExnF f cs g env = (g env).bind (exnF f cs) := rfl
def exnI (tb : List (Str × Bool)) (x : TD) : Option TD := match x.2 with
  | .exn c _ _ => (tb.lookup c).map fun b => (.N, .bl b)
  | _ => none
/-- isinstance(e, C) of an exception that is a tree -/
def sExnI (tb : List (Str × Bool)) (g : FE) : FE := fun env => (g env).bind (exnI tb)
@[simp] theorem sExnI_eq {tb : List (Str × Bool)} {g : FE} {env : Ev} : sExnI tb g env = (g env).bind (exnI tb) := rfl
@[simp] theorem exnI_eq {tb : List (Str × Bool)} {t : Tg} {c : Str} {ns : List Str} {ds : List D} : exnI tb (t, .exn c ns ds) = (tb.lookup c).map fun b => (.N, .bl b) := rfl
@[simp] theorem exnF_eq {f : Str} {cs : List Str} {t : Tg} {c : Str} {ns : List Str} {ds : List D} : exnF f cs (t, .exn c ns ds) = if c ∈ cs then ((ns.zip ds).lookup f).map fun d => nm (el t, d) else none := rfl
/-- one of the names of classes -/
def MgAll (mg : Str → Option Value) : List Str → List Addr → Prop
  | [], [] => True
  | n :: ns, D :: Ds => mg n = some (.ref D) ∧ MgAll mg ns Ds
  | _, _ => False
def ItL (K : PySem.W.Frag) (cl : Str → Option Addr) (us : List Value) (tb : List (Str × Bool)) : Prop := ∀ c b, tb.lookup c = some b → ∀ C, cl c = some C → ExcC K C ∧ PySem.W.kitAny K (.ref C) us = some b
theorem ItL.nil {K : PySem.W.Frag} {cl : Str → Option Addr} {us : List Value} : ItL K cl us [] := fun _ _ z => by cases z
theorem ItL.cons {K : PySem.W.Frag} {cl : Str → Option Addr} {us : List Value} {c : Str} {C : Addr} {b : Bool} {tb : List (Str × Bool)} (e : cl c = some C) (x : ExcC K C) (h : PySem.W.kitAny K (.ref C) us = some b) (r : ItL K cl us tb) : ItL K cl us ((c, b) :: tb) := fun c' b' hc C' e' => by
  by_cases q : c' = c
  · subst q
    rw [List.lookup_cons_self] at hc
    cases hc
    rw [e] at e'
    cases e'
    exact ⟨x, h⟩
  · have hb : (c' == c) = false := by simp [q]
    rw [List.lookup_cons, hb] at hc
    exact r c' b' hc C' e'
def IsTt (K : PySem.W.Frag) (mg : Str → Option Value) (cl : Str → Option Addr) (ns : List Str) (tb : List (Str × Bool)) : Prop :=
  ∃ Ds, MgAll mg ns Ds ∧ ItL K cl (Ds.map Value.ref) tb
theorem clsVs : ∀ Ds : List Addr, Paired ClsV (Ds.map V.ref) (Ds.map Value.ref)
  | [] => .nil
  | D :: Ds => .cons (.own D) (clsVs Ds)
structure PAn (X : Cx) (es : List Expr) (ns : List Str) : Prop where
  run : ∀ Ds, MgAll X.mg ns Ds → PA X es (fun σ H Q => Q (Ds.map V.ref) H)
section
variable {X : Cx}
theorem pan_nil : PAn X [] [] := ⟨fun Ds h => match Ds, h with | [], _ => pa_nil⟩
theorem pan_cons {es : List Expr} {ns : List Str} {n : Str} {p : Pos} (h : PAn X es ns) (hg : Gl X n := by rfl) (hd : (n == ("__debug__" : Str)) = false := by decide) (hs : starEach (.Name n p :: es) X.env = (false, eval (.Name n p) X.env) :: starEach es X.env := by rfl) : PAn X (.Name n p :: es) (n :: ns) :=
  ⟨fun Ds hm => match Ds, hm with | D :: Ds, ⟨h1, h2⟩ => pa_cons (pe_glob (v := .ref D) hg h1 rfl hd) (h.run Ds h2) hs⟩
/-- isinstance of a caught exception, a tuple of classes -/
def rIsDT (K : PySem.W.Frag) (C a dx : Addr) : List V → Hp → VK → Prop := fun xs H Q => ∃ (tp : Addr) (cs : List V) (us : List Value) (b : Bool) (fs : List (Str × V)), xs = [.ref a, .ref tp] ∧ H tp = some (.tup cs) ∧ Paired ClsV cs us ∧ PySem.W.kitAny K (.ref C) us = some b ∧ H dx = some (.xd fs) ∧ Q (.bl b) H
theorem call_isDT {a dx C : Addr} {oe : Obj} {pn : List (Addr × Obj)} (T : ExcC X.K C) (hz : L2N.Zn (.ref C) (some dx) oe) (hf : ∃ vs, oe.data = .fields vs) : CallR (X.suite a ((a, oe) :: pn)) (.builtin "isinstance") (rIsDT X.K C a dx) := by
  intro ps s σ H xs us Q I r h
  obtain ⟨tp, cs, ws, b, fs, rfl, hT, k, e, he, q⟩ := h
  cases r with
  | cons r1 r2 =>
    cases r2 with
    | cons r3 r4 =>
      cases r4
      cases r1
      cases r3
      have here := (I.pin (a, oe) (List.mem_append_left _ List.mem_cons_self)).1
      obtain ⟨vs, hd⟩ := hf
      have hx : ObjOk X.prog X.w H s.heap dx (.xd fs) := I.hok dx _ he
      obtain ⟨mA, hns, _⟩ := hx
      obtain ⟨od, ho, _⟩ := lookIn_ns hns
      have J : PySem.W.InstAt s.heap a oe C (some od) := ⟨here, hz.1, by unfold PySem.W.notCls; rw [hd] <;> rfl, by rw [hz.2.1]; exact ho⟩
      have hcl : (PySem.W.clsIn X.K C).isSome = true := by
        obtain ⟨cd, hc, _⟩ := PySem.W.any_some T.hd
        rw [hc]
        rfl
      obtain ⟨_, its, rv, o, h1, h2, n, h3⟩ := (show ObjOk X.prog X.w H s.heap tp (.tup cs) from I.hok tp _ hT)
      have e3 := ClsV.all k rv
      subst e3
      obtain ⟨oc, od2, dt, sl⟩ := o
      simp only at h2 h3
      subst h2 h3
      exact PySem.W.kia_tup (PySem.W.kitx_exc hcl T.hg T.hk T.hs T.ha T.hn T.ht T.hm) I.kIn J h1 e (fun z => nomatch z) fun tk => ⟨.bl b, H, I.kept (t' := tk) fun _ _ z => z, rfl, q⟩
/-- isinstance of an exception that is a tree -/
def rIsX (K : PySem.W.Frag) : List V → Hp → VK → Prop := fun xs H Q => ∃ (a C : Addr) (od : Option Addr) (c : V) (cv : Value) (b : Bool), xs = [.ref a, c] ∧ (∀ u, RelV c u → u = cv) ∧ ExcC K C ∧ PySem.W.kitOne K (.ref C) cv = some b ∧ H a = some (exo a C od) ∧ (od = none ∨ ∃ dx fs, od = some dx ∧ H dx = some (exd dx fs)) ∧ Q (.bl b) H
theorem call_isX : CallR X (.builtin "isinstance") (rIsX X.K) := by
  intro ps s σ H xs us Q I r h
  obtain ⟨a, C, od, c, cv, b, rfl, same, T, e, ha, hd, q⟩ := h
  obtain ⟨u1, u2, rfl, r1, r2⟩ := vals2 r
  cases (show u1 = Value.ref a from r1)
  have z := same _ r2
  subst z
  obtain ⟨t1, hh⟩ := exo_at I.hok ha
  have hcl : (PySem.W.clsIn X.K C).isSome = true := by
    obtain ⟨cd, hc, _⟩ := PySem.W.any_some T.hd
    rw [hc]
    rfl
  rcases hd with rfl | ⟨dx, fs, rfl, ed⟩
  · have J : PySem.W.InstAt s.heap a _ C none := ⟨hh, rfl, rfl, trivial⟩
    exact PySem.W.kia_one (PySem.W.kitx_exc hcl T.hg T.hk T.hs T.ha T.hn T.ht T.hm) I.kIn J e (fun z => nomatch z) fun tk => ⟨.bl b, H, I.kept (t' := tk) fun _ _ z => z, rfl, q⟩
  · obtain ⟨mA, hns, _⟩ := exd_at I.hok ed
    obtain ⟨od, ho, _⟩ := lookIn_ns hns
    have J : PySem.W.InstAt s.heap a _ C (some od) := ⟨hh, rfl, rfl, ho⟩
    exact PySem.W.kia_one (PySem.W.kitx_exc hcl T.hg T.hk T.hs T.ha T.hn T.ht T.hm) I.kIn J e (fun z => nomatch z) fun tk => ⟨.bl b, H, I.kept (t' := tk) fun _ _ z => z, rfl, q⟩
/-- e.f, whatever the class -/
theorem pe_exoFldX {n : Str} {e : Expr} {te : TE} {pos : Pos} (he : PE X e te) (hb : attributeBase e n X.env (eval e X.env) = eval e X.env := by rfl) :
    PE X (.Attribute e n pos) (fun σ H Q => te σ H fun x H1 => ∃ (a C dx : Addr) (fs : List (Str × V)) (v : V), x = .ref a ∧ XfC X.K C ∧ PySem.W.findIn X.K (.ref C) n = some none ∧ H1 a = some (exo a C (some dx)) ∧ H1 dx = some (exd dx fs) ∧ fs.lookup n = some v ∧ Q v H1) := by
  refine ⟨fun pins s σ H Q I h => attr_of hb (thn (he.run pins s σ H _ I h) fun u s1 hh => ?_)⟩
  obtain ⟨x, H1, I1, rx, a, C, dx, fs, v, ex, T, hno, ea, ed, l, q⟩ := hh
  subst ex
  obtain rfl : u = Value.ref a := rx
  obtain ⟨t1, ha⟩ := exo_at I1.hok ea
  obtain ⟨⟨mA, hns, hr⟩, _⟩ := I1.hok dx _ ed
  obtain ⟨od, ho, hl⟩ := lookIn_ns hns
  obtain ⟨u, hu, ru⟩ := RelO.some_of (v := v) (o := mA n) (by rw [← l]; exact hr n)
  have J : PySem.W.InstAt s1.heap a _ C (some od) := ⟨ha, rfl, rfl, ho⟩
  exact HandSPX.exc_get I1.kIn J T.ga T.gg T.exC (PySem.W.findObj_own T.hdC hno rfl (by rw [hl, hu])) (handed_of ru) ⟨v, H1, I1.tok _, ru, q⟩
end
section
variable {X : Cx} {cl : Str → Option Addr} {W : WX} {a : Expr} {e : Expr} {g : FE} {f tn n : Str} {cs : List Str} {tb : List (Str × Bool)} {p q pos : Pos} {i : Nat}
theorem je_exnF (hC : XfF X.K cl cs f) (he : PE X e (tE (zx X cl) g)) (hb : attributeBase e f X.env (eval e X.env) = eval e X.env := by rfl) : PE X (.Attribute e f pos) (tE (zx X cl) (sExnF f cs g)) := by
  refine pe_w (pe_exoFldX he hb) fun σ H Q ⟨env, w, r, eH, k, hr, q⟩ => ?_
  subst eH
  obtain ⟨⟨t, d⟩, h1, h2⟩ := Option.bind_eq_some_iff.mp hr
  unfold exnF at h2
  dsimp only at h2
  split at h2
  · rename_i c ns ds
    split at h2
    · rename_i hc
      obtain ⟨d, h3, rfl⟩ := Option.map_eq_some_iff.mp h2
      refine ⟨env, w, _, rfl, k, h1, fun v w1 g1 r1 => ?_⟩
      obtain ⟨a, C, od, vs, rfl, ha, hd, hcl, hl, rl⟩ := r1.exn g1.wf
      obtain ⟨T, hno⟩ := hC c hc C hcl
      obtain ⟨v, l1, l2⟩ := zip_look rl h3
      rcases hd with ⟨rfl, rfl⟩ | ⟨dx, rfl, ed⟩
      · cases l1
      · exact ⟨a, C, dx, _, v, rfl, T, hno, ha, ed, l1, q _ w1 g1 (RV.nm g1.wf (RV.of (el_ne t) l2))⟩
    · cases h2
  · cases h2
theorem je_exnI (hT : IsTm X.K X.mg cl tn tb) (mi : X.mg "isinstance" = none) (he : PE X e (tE (zx X cl) g)) (hgi : Gl X "isinstance" := by rfl) (hgt : Gl X tn := by rfl)
    (hdb : (tn == ("__debug__" : Str)) = false := by decide) (hs : starEach [e, .Name tn q] X.env = (false, eval e X.env) :: starEach [.Name tn q] X.env := by rfl)
    (hpl : (backTo pos (starEach [.Name tn q] X.env)).any (·.1) = false := by rfl) (he2 : starEach [.Name tn q] X.env = (false, eval (.Name tn q) X.env) :: starEach [] X.env := by rfl) :
    PE X (.Call (.Name "isinstance" p) [e, .Name tn q] [] pos) (tE (zx X cl) (sExnI tb g)) := by
  obtain ⟨D, hm, hT⟩ := hT
  refine pe_w (pe_callB call_isX hgi mi PyProof.Rows.boot_isinstance (pa_cons he (pa_cons (pe_glob (v := .ref D) hgt hm rfl hdb) pa_nil he2) hs) (by decide) (by decide) hs hpl) fun σ H Q ⟨env, w, r, eH, k, hr, q⟩ => ?_
  subst eH
  obtain ⟨⟨t, d⟩, h1, h2⟩ := Option.bind_eq_some_iff.mp hr
  unfold exnI at h2
  dsimp only at h2
  split at h2
  · rename_i c ns ds
    obtain ⟨b, h3, rfl⟩ := Option.map_eq_some_iff.mp h2
    refine ⟨env, w, _, rfl, k, h1, fun v w1 g1 r1 => ?_⟩
    obtain ⟨a, C, od, vs, rfl, ha, hd, hcl, hl, rl⟩ := r1.exn g1.wf
    obtain ⟨T, hk⟩ := hT c b h3 C hcl
    exact ⟨a, C, od, .ref D, .ref D, b, rfl, fun u e => e, T, hk, ha, hd.imp (fun h => h.1) (fun ⟨dx, e1, e2⟩ => ⟨dx, _, e1, e2⟩), q (.bl b) w1 g1 (nN (.bl b) rfl)⟩
  · cases h2
theorem je_exnB {T : String} (hT : IsT X.K cl (.type T) tb) (mi : X.mg "isinstance" = none) (hm : X.mg tn = none) (hbt : bootBuiltins tn = some (.type T)) (he : PE X e (tE (zx X cl) g)) (hgi : Gl X "isinstance" := by rfl) (hgt : Gl X tn := by rfl)
    (hnn : tn ≠ "__name__" := by decide) (hdb : (tn == ("__debug__" : Str)) = false := by decide) (hs : starEach [e, .Name tn q] X.env = (false, eval e X.env) :: starEach [.Name tn q] X.env := by rfl)
    (hpl : (backTo pos (starEach [.Name tn q] X.env)).any (·.1) = false := by rfl) (he2 : starEach [.Name tn q] X.env = (false, eval (.Name tn q) X.env) :: starEach [] X.env := by rfl) :
    PE X (.Call (.Name "isinstance" p) [e, .Name tn q] [] pos) (tE (zx X cl) (sExnI tb g)) := by
  refine pe_w (pe_callB call_isX hgi mi PyProof.Rows.boot_isinstance (pa_cons he (pa_cons (pe_bltn (v := .ty T) hgt hm hbt rfl hnn hdb) pa_nil he2) hs) (by decide) (by decide) hs hpl) fun σ H Q ⟨env, w, r, eH, k, hr, q⟩ => ?_
  subst eH
  obtain ⟨⟨t, d⟩, h1, h2⟩ := Option.bind_eq_some_iff.mp hr
  unfold exnI at h2
  dsimp only at h2
  split at h2
  · rename_i c ns ds
    obtain ⟨b, h3, rfl⟩ := Option.map_eq_some_iff.mp h2
    refine ⟨env, w, _, rfl, k, h1, fun v w1 g1 r1 => ?_⟩
    obtain ⟨a, C, od, vs, rfl, ha, hd, hcl, hl, rl⟩ := r1.exn g1.wf
    obtain ⟨TC, hk⟩ := hT c b h3 C hcl
    exact ⟨a, C, od, .ty T, .type T, b, rfl, fun u e => e, TC, hk, ha, hd.imp (fun h => h.1) (fun ⟨dx, e1, e2⟩ => ⟨dx, _, e1, e2⟩), q (.bl b) w1 g1 (nN (.bl b) rfl)⟩
  · cases h2
/-- isinstance(e, (C, ..)) of the caught exception -/
theorem je_isMt {a dx C : Addr} {oe : Obj} {pn : List (Addr × Obj)} {es : List Expr} {ns : List Str} {x1 : Nat} {qt p0 : Pos} (hz : L2N.Zn (.ref C) (some dx) oe) (hf : ∃ vs, oe.data = .fields vs) (hT : IsTt X.K X.mg cl ns tb) (hn : ns.length ≤ 1000) (mi : X.mg "isinstance" = none) (hE : PAn (X.suite a ((a, oe) :: pn)) es ns) (hN : X.N[i]? = some n := by rfl) (hgi : Gl X "isinstance" := by rfl)
    (hv : Vis X.env.scope n := by first | exact Or.inl rfl | exact Or.inr (Or.inl rfl) | exact Or.inr (Or.inr rfl))
    (hd : (n == ("__debug__" : Str)) = false := by decide) (hcd : (n == ("__classdict__" : Str)) = false := by decide) (he : starEach [.Name n p, .Tuple es x1 qt] X.env = (false, eval (.Name n p) X.env) :: starEach [.Tuple es x1 qt] X.env := by rfl)
    (hpl : (backTo pos (starEach [.Tuple es x1 qt] X.env)).any (·.1) = false := by rfl) (he2 : starEach [.Tuple es x1 qt] X.env = (false, eval (.Tuple es x1 qt) X.env) :: starEach [] X.env := by rfl) :
    PE (X.suite a ((a, oe) :: pn)) (.Call (.Name "isinstance" p0) [.Name n p, .Tuple es x1 qt] [] pos) (tE (zx X cl) (sIsE a dx C i tb)) := by
  refine ⟨fun pins s σ H Q I h => ?_⟩
  obtain ⟨env, w, r, eH, k, hr, qq⟩ := h
  subst eH
  obtain ⟨⟨c, ks, ds⟩, h1, h2⟩ := Option.bind_eq_some_iff.mp hr
  obtain ⟨g1, g2, vs, g3, g4, g5⟩ := exoAt_ok k h1
  obtain ⟨b, h3, rfl⟩ := Option.map_eq_some_iff.mp h2
  obtain ⟨Ds, hm, hT⟩ := hT
  obtain ⟨TC, hk⟩ := hT c b h3 C g2
  have hlen : ∀ {ns : List Str} {Ds : List Addr}, MgAll X.mg ns Ds → Ds.length = ns.length := fun {ns Ds} h => by
    induction ns generalizing Ds with
    | nil => cases Ds with | nil => rfl | cons _ _ => exact h.elim
    | cons n ns ih => cases Ds with | nil => exact h.elim | cons D Ds => simp [ih h.2]
  refine (pe_callB (X := X.suite a ((a, oe) :: pn)) (call_isDT TC hz hf) hgi mi PyProof.Rows.boot_isinstance (pa_cons (pe_var (X := X.suite a ((a, oe) :: pn)) (i := i) hN hv hd hcd) (pa_cons (pe_tup (hE.run Ds hm)) pa_nil he2) he) (by decide) (by decide) he hpl).run pins s σ w.H Q I ?_
  refine ⟨_, g1, by rw [List.length_map, hlen hm, sizeLine_eq]; omega, fun tp htp => ?_⟩
  have gp := Gr.put k.wf (t := .T) (o := .tup (Ds.map V.ref)) htp
  refine ⟨tp, Ds.map V.ref, Ds.map Value.ref, b, ks.zip vs, rfl, upd_same, clsVs Ds, hk, ?_, ?_⟩
  · rw [upd_ne (fun e => by rw [← e] at htp; rw [k.wf.bh _ _ g3] at htp; cases htp)]
    exact k.wf.bh _ _ g3
  · have := qq (.bl b) (w.put .T tp (.tup (Ds.map V.ref))) gp (nN (.bl _) rfl)
    rw [put_H] at this
    exact this
/-! ### reversed(xs[a:b]) -/
def slP (x : HV) (T : Tb) (lo hi : Option Int) : Option (XRes HV) := match x with
  | .pu d => (slD (.N, d) lo hi).bind fun r => resX r T
  | .ob n => match T[n]? with
    | some (some (.lst xs)) => (pures xs).map fun ds => .val (.pu (.lst (cutD ds lo hi))) T
    | _ => none
/-- xs[a:b]: a tree -/
def xSlP (f : FX) (l u : FO) : FX := fun env => bX (f env) fun x T => (l ⟨env.s, T⟩).bind fun lo => (u ⟨env.s, T⟩).bind fun hi => slP x T lo hi
@[simp] theorem xSlP_eq {f : FX} {l u : FO} {env : Ev} : xSlP f l u env = (f env).bind (kX fun x T => (l ⟨env.s, T⟩).bind fun lo => (u ⟨env.s, T⟩).bind fun hi => slP x T lo hi) := rfl
@[simp] theorem slP_pu {d : D} {T : Tb} {lo hi : Option Int} : slP (.pu d) T lo hi = (slD (.N, d) lo hi).bind fun r => resX r T := rfl
theorem slP_ob {n : Nat} {T : Tb} {xs : List HV} {ds : List D} {lo hi : Option Int} (h : T[n]? = some (some (.lst xs))) (h2 : pures xs = some ds) : slP (.ob n) T lo hi = some (.val (.pu (.lst (cutD ds lo hi))) T) := by
  unfold slP
  simp only [h, h2]
  rfl
def revI (x : HV) (T : Tb) : Option (XRes (List TD)) := match x with | .pu d => (itemsRev (.N, d)).map fun is => .val is T | _ => none
/-- reversed(e) of a tree, as the source of a loop -/
def xRevI (f : FX) : FIX := fun env => bX (f env) revI
@[simp] theorem xRevI_eq {f : FX} {env : Ev} : xRevI f env = (f env).bind (kX revI) := rfl
@[simp] theorem revI_pu {d : D} {T : Tb} : revI (.pu d) T = (itemsRev (.N, d)).map fun is => .val is T := rfl
end
section
variable {X : Cx} {cl : Str → Option Addr} {W : WX} {a : Expr} {f : FX} {l1 l2 : FO} {lo hi : Option Expr} {p p2 pos : Pos} {tg : Expr}
theorem jx_slP (he : PE X a (tX (zx X cl) W f)) (hl : PO X lo (tO (zx X cl) l1)) (hu : PO X hi (tO (zx X cl) l2)) : PE X (.Subscript a (.Slice lo hi none p2) pos) (tX (zx X cl) W (xSlP f l1 l2)) := by
  refine pe_w (pe_slice ((sl_d (cl := cl)).or sl_list) he hl hu) fun σ H Q ⟨env, w, r, e, k, h, q⟩ => ?_
  subst e
  refine tX_bind k h q.late fun x T1 v w1 h1 g1 k1 hx => ?_
  obtain ⟨lo', hlo, h1⟩ := Option.bind_eq_some_iff.mp h1
  obtain ⟨hi', hhi, h1⟩ := Option.bind_eq_some_iff.mp h1
  refine ⟨⟨env.s, T1⟩, w1, lo', rfl, k1, hlo, fun w2 g2 => ⟨⟨env.s, T1⟩, w2, hi', rfl, k1.mono g2, hhi, fun w3 g3 => ?_⟩⟩
  have k3 := (k1.mono g2).mono g3
  have g13 : Gs w w3 := g1.trans ((g2.trans g3).gs k1.wf)
  cases x with
  | pu d =>
    obtain ⟨z, hz, h2⟩ := Option.bind_eq_some_iff.mp h1
    refine .inl ⟨w3, (.N, d), z, rfl, k3.wf, ?_, hz, fun v' w4 g4 r4 => ?_⟩
    · have : RV (zx X cl) w1 (.N, d) v := hx
      exact (this.mono g2).mono g3
    · exact resX_ok h2 q g13 k3 g4 r4
  | ob n =>
    unfold slP at h1
    dsimp only at h1
    split at h1
    · rename_i xs hxs
      obtain ⟨ds, e1, h1⟩ := Option.map_eq_some_iff.mp h1
      cases h1
      have hM : srcM T1 (.ob n) = some (.lst xs) := by unfold srcM; simp only [hxs]
      have hx3 : HvOk (zx X cl) w3 v (.ob n) := (hx.mono ((g2.trans g3).gs k1.wf).n ((g2.trans g3).gs k1.wf).m)
      obtain ⟨pa, vs, rfl, h2, h3⟩ := src_lst k3.wf k3.tb hx3 hM
      refine .inr ⟨pa, vs, rfl, h2, fun np hnp => ?_⟩
      have gp := Gr.put k3.wf (t := .N) (o := .lst (cutV vs lo' hi')) hnp
      exact q _ (w3.put .N np (.lst (cutV vs lo' hi'))) (g13.trans (Gr.gs k3.wf gp)) (k3.mono gp) (.lst (xs := cutV vs lo' hi') upd_same (cutV_rp (RpL.mono gp.n (pures_rpN e1 h3)) lo' hi'))
    · cases h1
theorem jix_rev (hm : X.mg "reversed" = none) (ha : PE X a (tX (zx X cl) W f)) (hg : Gl X "reversed" := by rfl) (hs : starEach [a] X.env = (false, eval a X.env) :: starEach [] X.env := by rfl) : PI X tg (.Call (.Name "reversed" p) [a] [] pos) (tIX (zx X cl) W (xRevI f)) := by
  refine pi_w (RT.pi_revA hg hm ha hs) fun σ H R ⟨env, w, r, e, k, hr, q⟩ => ?_
  subst e
  refine tX_bind k hr q.late fun x T1 v w1 h1 g1 k1 hx => ?_
  unfold revI at h1
  cases x with
  | ob n => cases h1
  | pu d =>
    obtain ⟨items, h2, h1⟩ := Option.map_eq_some_iff.mp h1
    cases h1
    have q : PrX (zx X cl) env.s σ w R items T1 := q
    unfold itemsRev at h2
    dsimp only at h2
    have r1 : Rp (zx X cl) w1.N v d := hx
    split at h2
    · rename_i e2
      cases h2
      cases r1 with
      | lst h r => exact ⟨_, _, rfl, .inl ⟨SqL.of (k1.wf.nh _ _ h), q _ w1 g1 k1 (wk_rl (.inl rfl) (SqL.of h) r)⟩⟩
    · rename_i e2; cases e2
    · cases h2
      cases r1 with
      | tup h r => exact ⟨_, _, rfl, .inr ⟨sqT_mono k1.wf.nh h, q _ w1 g1 k1 (wk_rt (.inl rfl) h r)⟩⟩
    · rename_i e2; cases e2
    · cases h2
end
end Vf
namespace Lw
open PySem L2 Vf
abbrev N_law_classes : List Str := ["e", "row"]
abbrev XT_BadArguments : List (Str × Bool) := [("BadCode", false), ("BadProgram", false), ("BadText", false), ("Refused", false), ("BadArguments", true), ("BadPicture", false), ("BadImage", false), ("NoRoom", false), ("NoObject", false)]
abbrev XT_BadCode : List (Str × Bool) := [("BadCode", true), ("BadProgram", false), ("BadText", false), ("Refused", false), ("BadArguments", false), ("BadPicture", false), ("BadImage", false), ("NoRoom", false), ("NoObject", false)]
abbrev XT_BadImage : List (Str × Bool) := [("BadCode", false), ("BadProgram", false), ("BadText", false), ("Refused", false), ("BadArguments", false), ("BadPicture", false), ("BadImage", true), ("NoRoom", false), ("NoObject", false)]
abbrev XT_BadPicture : List (Str × Bool) := [("BadCode", false), ("BadProgram", false), ("BadText", false), ("Refused", false), ("BadArguments", false), ("BadPicture", true), ("BadImage", false), ("NoRoom", false), ("NoObject", false)]
abbrev XT_BadProgram : List (Str × Bool) := [("BadCode", false), ("BadProgram", true), ("BadText", false), ("Refused", false), ("BadArguments", false), ("BadPicture", false), ("BadImage", false), ("NoRoom", false), ("NoObject", false)]
abbrev XT_BadText : List (Str × Bool) := [("BadCode", false), ("BadProgram", false), ("BadText", true), ("Refused", false), ("BadArguments", false), ("BadPicture", false), ("BadImage", false), ("NoRoom", false), ("NoObject", false)]
abbrev XT_NoObject : List (Str × Bool) := [("BadCode", false), ("BadProgram", false), ("BadText", false), ("Refused", false), ("BadArguments", false), ("BadPicture", false), ("BadImage", false), ("NoRoom", false), ("NoObject", true)]
abbrev XT_NoRoom : List (Str × Bool) := [("BadCode", false), ("BadProgram", false), ("BadText", false), ("Refused", false), ("BadArguments", false), ("BadPicture", false), ("BadImage", false), ("NoRoom", true), ("NoObject", false)]
abbrev XT_Refused : List (Str × Bool) := [("BadCode", false), ("BadProgram", false), ("BadText", false), ("Refused", true), ("BadArguments", false), ("BadPicture", false), ("BadImage", false), ("NoRoom", false), ("NoObject", false)]
noncomputable def F_law_classes : FS := (sSeq (sSet 1 (sL (sLd (sCons (sExnI XT_BadProgram (sVar 0)) (sCons (sExnI XT_BadText (sVar 0)) (sCons (sExnI XT_BadCode (sVar 0)) (sCons (sExnI XT_Refused (sVar 0)) sNil))))))) (sSeq (sSet 1 (sOp oAdd (sVar 1) (sL (sLd (sCons (sExnI XT_BadArguments (sVar 0)) (sCons (sExnI XT_BadPicture (sVar 0)) (sCons (sExnI XT_BadImage (sVar 0)) sNil))))))) (sRet (sOp oAdd (sVar 1) (sL (sLd (sCons (sExnI XT_NoRoom (sVar 0)) (sCons (sExnI XT_NoObject (sVar 0)) sNil))))))))
noncomputable def g_law_classes : List TD → Option TD := gF 1 N_law_classes.length F_law_classes
theorem len_law_classes : ∀ rs r, g_law_classes rs = some r → rs.length = 1 := gF_len
theorem okt_law_classes : ∀ rs r, g_law_classes rs = some r → okT r.1 = true := gF_ok
theorem sem_law_classes : ∀ rs r, rs.all (fun r => okT r.1) = true → g_law_classes rs = some r → (F_law_classes (env0 N_law_classes.length rs)).bind fin = some r := gF_sem
abbrev N_law_apart : List Str := ["e", "k", "j"]
abbrev XT_QuietError : List (Str × Bool) := [("BadCode", true), ("BadProgram", true), ("BadText", true), ("Refused", true), ("BadArguments", true), ("BadPicture", true), ("BadImage", true), ("NoRoom", true), ("NoObject", true)]
abbrev XT_ValueError : List (Str × Bool) := [("BadCode", true), ("BadProgram", true), ("BadText", true), ("Refused", true), ("BadArguments", true), ("BadPicture", true), ("BadImage", true), ("NoRoom", true), ("NoObject", true)]
noncomputable def F_law_apart : FS := (sSeq (sIf (sOrT (sNotT (sTru (sExnI XT_QuietError (sVar 0)))) (sNotT (sTru (sExnI XT_ValueError (sVar 0)))))
  (sRet (sLit (.bl false)))
  sNx) (sRet (sOp oEq (sCall g_law_classes (sCons (sVar 0) sNil)) (sL (sLc (sR1 (sLit (.int 9))) (setV 2) sYes (sOp oEq (sVar 2) (sVar 1)) [2])))))
noncomputable def g_law_apart : List TD → Option TD := gF 2 N_law_apart.length F_law_apart
theorem len_law_apart : ∀ rs r, g_law_apart rs = some r → rs.length = 2 := gF_len
theorem okt_law_apart : ∀ rs r, g_law_apart rs = some r → okT r.1 = true := gF_ok
theorem sem_law_apart : ∀ rs r, rs.all (fun r => okT r.1) = true → g_law_apart rs = some r → (F_law_apart (env0 N_law_apart.length rs)).bind fin = some r := gF_sem
abbrev N_BadProgram_init : List Str := ["self", "part", "number", "place", "why"]
noncomputable def F_BadProgram_init : EI := [("part", (sVar 1)), ("number", (sVar 2)), ("place", (sVar 3)), ("why", (sVar 4))]
noncomputable def g_BadProgram_init : List D → Option (List (Str × D)) := gIni 5 N_BadProgram_init.length F_BadProgram_init
abbrev N_BadText_init : List Str := ["self", "line", "why"]
noncomputable def F_BadText_init : EI := [("line", (sVar 1)), ("why", (sVar 2))]
noncomputable def g_BadText_init : List D → Option (List (Str × D)) := gIni 3 N_BadText_init.length F_BadText_init
abbrev N_BadCode_init : List Str := ["self", "at"]
noncomputable def F_BadCode_init : EI := [("at", (sVar 1))]
noncomputable def g_BadCode_init : List D → Option (List (Str × D)) := gIni 2 N_BadCode_init.length F_BadCode_init
abbrev N_frozen : List Str := ["value", "part"]
noncomputable def F_frozen (gg : List TD → Option TD) : FS := (sSeq (sIf (sTru (sIsi2 "list" "tuple" (sVar 0)))
  (sRet (sB tupB (sCons (sL (sLc (sItr (sVar 0)) (setV 1) sYes (sCall gg (sCons (sVar 1) sNil)) [1])) sNil)))
  sNx) (sRet (sVar 0)))
noncomputable def gN_frozen : Nat → List TD → Option TD
  | 0 => fun _ => none
  | n + 1 => gF 1 N_frozen.length (F_frozen (gN_frozen n))
noncomputable def g_frozen : List TD → Option TD := gN_frozen 9
abbrev N_Refused_init : List Str := ["self", "number", "why", "walk", "other"]
noncomputable def F_Refused_init : EI := [("number", (sVar 1)), ("why", (sVar 2)), ("walk", (sCall g_frozen (sCons (sVar 3) sNil))), ("other", (sCall g_frozen (sCons (sVar 4) sNil)))]
noncomputable def g_Refused_init : List D → Option (List (Str × D)) := gIni 5 N_Refused_init.length F_Refused_init
abbrev N_law_errors_kept : List Str := ["n", "text", "one", "two", "three", "four"]
abbrev XC_at : List Str := ["BadCode"]
abbrev XC_line : List Str := ["BadText", "BadImage"]
abbrev XC_number : List Str := ["BadProgram", "Refused", "BadPicture", "NoObject"]
abbrev XC_other : List Str := ["Refused"]
abbrev XC_part : List Str := ["BadProgram", "BadPicture"]
abbrev XC_place : List Str := ["BadProgram"]
abbrev XC_walk : List Str := ["Refused"]
abbrev XC_why : List Str := ["BadProgram", "BadText", "Refused", "BadPicture", "BadImage"]
noncomputable def F_law_errors_kept : SX := (zSeq (zSet 2 (xMakeE "BadProgram" g_BadProgram_init 4 [0, 1, 2, 3] (xCons (xE (sVar 1)) (xCons (xE (sVar 0)) (xCons (xE (sOp oSub (sVar 0) (sLit (.int 1)))) (xCons (xE (sOp oAdd (sVar 1) (sLit (.str "x")))) xNil)))))) (zSeq (zSet 3 (xMakeE "BadText" g_BadText_init 2 [0, 1] (xCons (xE (sVar 0)) (xCons (xE (sVar 1)) xNil)))) (zSeq (zSet 4 (xMakeE "BadCode" g_BadCode_init 1 [0] (xCons (xE (sVar 0)) xNil))) (zSeq (zSet 5 (xMakeE "Refused" g_Refused_init 4 [0, 1, 2, 3] (xCons (xE (sVar 0)) (xCons (xE (sVar 1)) (xCons (xE (sTp (sCons (sLit (.int 0)) (sCons (sVar 0) sNil)))) (xCons (xE (sTp (sCons (sVar 0) sNil))) xNil)))))) (zSeq (zIf (xP (sOrT (sBl (sOp oNe (sTp (sCons (sExnF "part" XC_part (sVar 2)) (sCons (sExnF "number" XC_number (sVar 2)) (sCons (sExnF "place" XC_place (sVar 2)) (sCons (sExnF "why" XC_why (sVar 2)) sNil))))) (sTp (sCons (sVar 1) (sCons (sVar 0) (sCons (sOp oSub (sVar 0) (sLit (.int 1))) (sCons (sOp oAdd (sVar 1) (sLit (.str "x"))) sNil))))))) (sBl (sOp oNe (sTp (sCons (sExnF "line" XC_line (sVar 3)) (sCons (sExnF "why" XC_why (sVar 3)) sNil))) (sTp (sCons (sVar 0) (sCons (sVar 1) sNil)))))))
  (zRet (xE (sLit (.bl false))))
  zNx) (zSeq (zIf (xP (sOrT (sBl (sOp oNe (sExnF "at" XC_at (sVar 4)) (sVar 0))) (sBl (sOp oNe (sTp (sCons (sExnF "number" XC_number (sVar 5)) (sCons (sExnF "why" XC_why (sVar 5)) (sCons (sExnF "walk" XC_walk (sVar 5)) (sCons (sExnF "other" XC_other (sVar 5)) sNil))))) (sTp (sCons (sVar 0) (sCons (sVar 1) (sCons (sTp (sCons (sLit (.int 0)) (sCons (sVar 0) sNil))) (sCons (sTp (sCons (sVar 0) sNil)) sNil)))))))))
  (zRet (xE (sLit (.bl false))))
  zNx) (zRet (xE (sAndV (sCall g_law_apart (sCons (sVar 2) (sCons (sLit (.int 0)) sNil))) (sAndV (sCall g_law_apart (sCons (sVar 3) (sCons (sLit (.int 1)) sNil))) (sAndV (sCall g_law_apart (sCons (sVar 4) (sCons (sLit (.int 2)) sNil))) (sCall g_law_apart (sCons (sVar 5) (sCons (sLit (.int 3)) sNil))))))))))))))
noncomputable def g_law_errors_kept : List HV → Tb → Option (XRes HV) := gFX 2 N_law_errors_kept.length F_law_errors_kept
abbrev N_BadPicture_init : List Str := ["self", "part", "number", "why"]
noncomputable def F_BadPicture_init : EI := [("part", (sVar 1)), ("number", (sVar 2)), ("why", (sVar 3))]
noncomputable def g_BadPicture_init : List D → Option (List (Str × D)) := gIni 4 N_BadPicture_init.length F_BadPicture_init
abbrev N_BadImage_init : List Str := ["self", "line", "why"]
noncomputable def F_BadImage_init : EI := [("line", (sVar 1)), ("why", (sVar 2))]
noncomputable def g_BadImage_init : List D → Option (List (Str × D)) := gIni 3 N_BadImage_init.length F_BadImage_init
abbrev N_NoRoom_init : List Str := ["self", "words"]
noncomputable def F_NoRoom_init : EI := [("words", (sVar 1))]
noncomputable def g_NoRoom_init : List D → Option (List (Str × D)) := gIni 2 N_NoRoom_init.length F_NoRoom_init
abbrev N_NoObject_init : List Str := ["self", "number"]
noncomputable def F_NoObject_init : EI := [("number", (sVar 1))]
noncomputable def g_NoObject_init : List D → Option (List (Str × D)) := gIni 2 N_NoObject_init.length F_NoObject_init
abbrev N_law_more_errors_kept : List Str := ["n", "text", "one", "two", "three", "four", "five"]
abbrev XC_words : List Str := ["NoRoom"]
noncomputable def F_law_more_errors_kept : SX := (zSeq (zSet 2 (xMakeE0 "BadArguments")) (zSeq (zSet 3 (xMakeE "BadPicture" g_BadPicture_init 3 [0, 1, 2] (xCons (xE (sVar 1)) (xCons (xE (sVar 0)) (xCons (xE (sOp oAdd (sVar 1) (sLit (.str "x")))) xNil))))) (zSeq (zSet 4 (xMakeE "BadImage" g_BadImage_init 2 [0, 1] (xCons (xE (sVar 0)) (xCons (xE (sVar 1)) xNil)))) (zSeq (zSet 5 (xMakeE "NoRoom" g_NoRoom_init 1 [0] (xCons (xE (sVar 0)) xNil))) (zSeq (zSet 6 (xMakeE "NoObject" g_NoObject_init 1 [0] (xCons (xE (sVar 0)) xNil))) (zSeq (zIf (xP (sOrT (sBl (sOp oNe (sTp (sCons (sExnF "part" XC_part (sVar 3)) (sCons (sExnF "number" XC_number (sVar 3)) (sCons (sExnF "why" XC_why (sVar 3)) sNil)))) (sTp (sCons (sVar 1) (sCons (sVar 0) (sCons (sOp oAdd (sVar 1) (sLit (.str "x"))) sNil)))))) (sBl (sOp oNe (sTp (sCons (sExnF "line" XC_line (sVar 4)) (sCons (sExnF "why" XC_why (sVar 4)) sNil))) (sTp (sCons (sVar 0) (sCons (sVar 1) sNil)))))))
  (zRet (xE (sLit (.bl false))))
  zNx) (zSeq (zIf (xP (sOrT (sBl (sOp oNe (sExnF "words" XC_words (sVar 5)) (sVar 0))) (sOrT (sBl (sOp oNe (sExnF "number" XC_number (sVar 6)) (sVar 0))) (sOrT (sNotT (sTru (sCall g_law_apart (sCons (sVar 2) (sCons (sLit (.int 4)) sNil))))) (sNotT (sTru (sCall g_law_apart (sCons (sVar 3) (sCons (sLit (.int 5)) sNil)))))))))
  (zRet (xE (sLit (.bl false))))
  zNx) (zRet (xE (sAndV (sCall g_law_apart (sCons (sVar 4) (sCons (sLit (.int 6)) sNil))) (sAndV (sCall g_law_apart (sCons (sVar 5) (sCons (sLit (.int 7)) sNil))) (sCall g_law_apart (sCons (sVar 6) (sCons (sLit (.int 8)) sNil))))))))))))))
noncomputable def g_law_more_errors_kept : List HV → Tb → Option (XRes HV) := gFX 2 N_law_more_errors_kept.length F_law_more_errors_kept
def G_GROUP : D := (.int (128))
def G_MOST_OCTETS : D := (.int (5))
abbrev N_decode_number : List Str := ["octets", "at", "last", "n", "octet"]
noncomputable def B_decode_number_1 : SX := (zLift (augI (fun i j => i + j) 2 (sLit (.int 1))))
noncomputable def B_decode_number_2 : SX := (zSet 3 (xOp oAdd (xOp oMulX (xH (hVar 3)) (xE (sLit G_GROUP))) (xOp oMod (xH (hVar 4)) (xE (sLit G_GROUP)))))
noncomputable def F_decode_number : SX := (zSeq (zSet 2 (xE (sVar 1))) (zSeq (zWh (xAndT (xBl (xOp oLt (xE (sVar 2)) (xLen (xH (hVar 0))))) (xBl (xOp oGe (xIx (xH (hVar 0)) (xE (sVar 2))) (xE (sLit G_GROUP)))))
  B_decode_number_1) (zSeq (zIf (xBl (xOp oGe (xE (sVar 2)) (xLen (xH (hVar 0)))))
  (zRaise "BadCode" g_BadCode_init (xCons (xLen (xH (hVar 0))) xNil))
  zNx) (zSeq (zIf (xOrT (xP (sBl (sOp oGe (sOp oSub (sVar 2) (sVar 1)) (sLit G_MOST_OCTETS)))) (xAndT (xP (sBl (sOp oGt (sVar 2) (sVar 1)))) (xBl (xOp oEq (xIx (xH (hVar 0)) (xE (sVar 2))) (xE (sLit (.int 0)))))))
  (zRaise "BadCode" g_BadCode_init (xCons (xE (sVar 1)) xNil))
  zNx) (zSeq (zSet 3 (xE (sLit (.int 0)))) (zSeq (zForX (xRevI (xSlP (xH (hVar 0)) (sPt (sVar 1)) (sPt (sOp oAdd (sVar 2) (sLit (.int 1)))))) (setV 4)
  B_decode_number_2) (zRet (xTup (xCons (xH (hVar 3)) (xCons (xE (sOp oAdd (sVar 2) (sLit (.int 1)))) xNil))))))))))
noncomputable def g_decode_number : List HV → Tb → Option (XRes HV) := gFX 2 N_decode_number.length F_decode_number
abbrev N_law_outcome : List Str := ["octets", "spot", "told", "e"]
abbrev XK_BadCode : List Str := ["BadCode"]
abbrev XU_BadProgram_BadText_Refused_BadArguments_BadPicture_BadImage_NoRoom_NoObject : List (Str × Bool) := [("BadCode", false), ("BadProgram", true), ("BadText", true), ("Refused", true), ("BadArguments", true), ("BadPicture", true), ("BadImage", true), ("NoRoom", true), ("NoObject", true)]
noncomputable def F_law_outcome : SX := (zSeq (zTryAs 3 XK_BadCode (zSet 2 (xCall g_decode_number (xCons (xH (hVar 0)) (xCons (xE (sVar 1)) xNil)))) (fun a dx C => (zSeq (zIf (xP (sOrT (sNotT (sTru (sCall g_law_whole (sCons (sExF a dx C 3 "at" XC_at) sNil)))) (sOrT (sNotT (sTru (sIsE a dx C 3 XT_QuietError))) (sNotT (sTru (sIsE a dx C 3 XT_ValueError))))))
  (zRet (xE (sL (sLd sNil))))
  zNx) (zSeq (zIf (xP (sTru (sIsE a dx C 3 XU_BadProgram_BadText_Refused_BadArguments_BadPicture_BadImage_NoRoom_NoObject)))
  (zRet (xE (sL (sLd sNil))))
  zNx) (zRet (xE (sL (sLd (sCons (sLit .non) (sCons (sExF a dx C 3 "at" XC_at) sNil)))))))))) (zSeq (zIf (xP (sOrT (sNotT (sTru (sIsi "tuple" (sVar 2)))) (sOrT (sBl (sOp oNe (sB lenB (sCons (sVar 2) sNil)) (sLit (.int 2)))) (sOrT (sNotT (sTru (sCall g_law_whole (sCons (sOp oIx (sVar 2) (sLit (.int 0))) sNil)))) (sNotT (sTru (sCall g_law_whole (sCons (sOp oIx (sVar 2) (sLit (.int 1))) sNil))))))))
  (zRet (xE (sL (sLd sNil))))
  zNx) (zRet (xE (sL (sLd (sCons (sOp oIx (sVar 2) (sLit (.int 0))) (sCons (sOp oIx (sVar 2) (sLit (.int 1))) sNil))))))))
noncomputable def g_law_outcome : List HV → Tb → Option (XRes HV) := gFX 2 N_law_outcome.length F_law_outcome
abbrev N_law_read_at : List Str := ["octets", "spot", "found", "k", "last", "n"]
noncomputable def B_law_read_at_1 : FS := (sSet 5 (sOp oAdd (sOp oMulX (sLit (.int 128)) (sVar 5)) (sOp oMod (sB intB (sCons (sOp oIx (sVar 0) (sOp oSub (sVar 4) (sVar 3))) sNil)) (sLit (.int 128)))))
noncomputable def F_law_read_at : FS := (sSeq (sSet 2 (sL (sLc (sR2 (sVar 1) (sB lenB (sCons (sVar 0) sNil))) (setV 3) (sBl (sOp oLt (sOp oIx (sVar 0) (sVar 3)) (sLit (.int 128)))) (sVar 3) [3]))) (sSeq (sIf (sBl (sOp oEq (sB lenB (sCons (sVar 2) sNil)) (sLit (.int 0))))
  (sRet (sL (sLd (sCons (sLit .non) (sCons (sB lenB (sCons (sVar 0) sNil)) sNil)))))
  sNx) (sSeq (sSet 4 (sOp oIx (sVar 2) (sLit (.int 0)))) (sSeq (sIf (sOrT (sBl (sOp oGt (sOp oSub (sVar 4) (sVar 1)) (sLit (.int 4)))) (sAndT (sBl (sOp oGt (sVar 4) (sVar 1))) (sBl (sOp oEq (sOp oIx (sVar 0) (sVar 4)) (sLit (.int 0))))))
  (sRet (sL (sLd (sCons (sLit .non) (sCons (sVar 1) sNil)))))
  sNx) (sSeq (sSet 5 (sLit (.int 0))) (sSeq (sFor (sR1 (sOp oAdd (sOp oSub (sVar 4) (sVar 1)) (sLit (.int 1)))) (setV 3)
  B_law_read_at_1) (sRet (sL (sLd (sCons (sVar 5) (sCons (sOp oAdd (sVar 4) (sLit (.int 1))) sNil)))))))))))
noncomputable def g_law_read_at : List TD → Option TD := gF 2 N_law_read_at.length F_law_read_at
theorem len_law_read_at : ∀ rs r, g_law_read_at rs = some r → rs.length = 2 := gF_len
theorem okt_law_read_at : ∀ rs r, g_law_read_at rs = some r → okT r.1 = true := gF_ok
theorem sem_law_read_at : ∀ rs r, rs.all (fun r => okT r.1) = true → g_law_read_at rs = some r → (F_law_read_at (env0 N_law_read_at.length rs)).bind fin = some r := gF_sem
abbrev N_law : List Str := ["script", "n", "text", "row", "digits", "octets", "k", "style", "worth", "mine", "first", "spot", "told", "again"]
noncomputable def B_law_1 : SX := (zSeq (zSet 7 (xE (sOp oIx (sVar 4) (sOp oMulX (sLit (.int 2)) (sVar 6))))) (zSeq (zSet 8 (xE (sOp oIx (sVar 4) (sOp oAdd (sLit (.int 1)) (sOp oMulX (sLit (.int 2)) (sVar 6)))))) (zSeq (zIf (xP (sOrT (sBl (sOp oLt (sVar 7) (sLit (.int 3)))) (sAndT (sBl (sOp oEq (sOp oIx (sVar 3) (sLit (.int 1))) (sLit (.int 0)))) (sBl (sOp oLt (sVar 7) (sLit (.int 7)))))))
  (zSet 8 (xE (sOp oAdd (sLit (.int 128)) (sOp oMod (sB intB (sCons (sVar 8) sNil)) (sLit (.int 128))))))
  (zIf (xP (sBl (sOp oEq (sVar 7) (sLit (.int 3)))))
  (zSet 8 (xE (sLit (.int 0))))
  (zIf (xP (sBl (sOp oEq (sVar 7) (sLit (.int 4)))))
  (zSet 8 (xE (sLit (.int 128))))
  zNx))) (zDo (xLm mApp (xH (hVar 5)) (xCons (xE (sVar 8)) xNil))))))
noncomputable def B_law_2 : SX := (zSeq (zSet 12 (xCall g_law_outcome (xCons (xH (hVar 9)) (xCons (xE (sVar 11)) xNil)))) (zSeq (zIf (xBl (xOp oNe (xE (sVar 12)) (xCallP g_law_read_at (xCons (xH (hVar 5)) (xCons (xE (sVar 11)) xNil)))))
  (zRet (xE (sLit (.bl false))))
  zNx) (zDo (xLm mApp (xH (hVar 10)) (xCons (xE (sVar 12)) xNil)))))
noncomputable def F_law : SX := (zSeq (zSet 1 (xE (sB intB (sCons (sCall g_law_cell (sCons (sVar 0) (sCons (sLit (.int 2)) sNil))) sNil)))) (zSeq (zSet 2 (xE (sOp oIx (sL (sLd (sCons (sLit (.str "count")) (sCons (sLit (.str "")) (sCons (sLit (.str "kind")) (sCons (sLit (.str "x")) sNil)))))) (sOp oMod (sB intB (sCons (sVar 1) sNil)) (sLit (.int 4)))))) (zSeq (zIf (xOrT (xNotT (xTru (xCall g_law_errors_kept (xCons (xE (sVar 1)) (xCons (xE (sVar 2)) xNil))))) (xNotT (xTru (xCall g_law_more_errors_kept (xCons (xE (sVar 1)) (xCons (xE (sVar 2)) xNil))))))
  (zRet (xE (sLit (.bl false))))
  zNx) (zSeq (zSet 3 (xE (sCall g_law_digits (sCons (sCall g_law_cell (sCons (sVar 0) (sCons (sLit (.int 0)) sNil))) (sCons (sL (sLd (sCons (sLit (.int 41)) (sCons (sLit (.int 3)) (sCons (sLit (.int 2)) (sCons (sLit (.int 8)) sNil)))))) sNil))))) (zSeq (zSet 4 (xE (sCall g_law_digits (sCons (sCall g_law_cell (sCons (sVar 0) (sCons (sLit (.int 1)) sNil))) (sCons (sOp oMulX (sL (sLd (sCons (sLit (.int 8)) (sCons (sLit (.int 256)) sNil)))) (sLit (.int 40))) sNil))))) (zSeq (zSet 5 (xLst xNil)) (zSeq (zFor (sR1 (sOp oIx (sVar 3) (sLit (.int 0)))) (setV 6)
  B_law_1) (zSeq (zIf (xP (sBl (sOp oEq (sOp oIx (sVar 3) (sLit (.int 3))) (sLit (.int 0)))))
  (zSet 5 (xCat (xE (sL (sLc (sR1 (sLit (.int 90))) (setV 6) sYes (sOp oAdd (sLit (.int 128)) (sVar 6)) [6]))) (xH (hVar 5))))
  zNx) (zSeq (zSet 9 (xList (xH (hVar 5)))) (zSeq (zIf (xP (sBl (sOp oEq (sOp oIx (sVar 3) (sLit (.int 2))) (sLit (.int 1)))))
  (zSet 9 (xTupOf (xH (hVar 5))))
  zNx) (zSeq (zSet 10 (xLst xNil)) (zSeq (zForX (xR1 (xOp oAdd (xLen (xH (hVar 5))) (xE (sLit (.int 1))))) (setV 11)
  B_law_2) (zSeq (zSet 13 (xLcR (xR1 (xOp oAdd (xLen (xH (hVar 5))) (xE (sLit (.int 1))))) (setV 11) xYes (xCall g_law_outcome (xCons (xH (hVar 9)) (xCons (xE (sVar 11)) xNil))) [11])) (zRet (xAndV (xOp oEq (xH (hVar 13)) (xH (hVar 10))) (xOp oEq (xList (xH (hVar 9))) (xH (hVar 5))))))))))))))))))
noncomputable def g_law : List HV → Tb → Option (XRes HV) := gFX 1 N_law.length F_law
end Lw
namespace Lw
open PySem L2 Vf
theorem lcL_mapN {α : Type} {fe : FE} {s : TD → Ev → Option Ev} {env : Ev} {g h : α → D} : ∀ {xs : List α}, (∀ a ∈ xs, Ok (s (.N, g a) env) fun e => Ok (fe e) fun y => y = (.N, h a)) → lcL sYes fe s env (xs.map fun a => (Tg.N, g a)) = some (xs.map fun a => (Tg.N, h a))
  | [], _ => rfl
  | a :: xs, hh => by
    obtain ⟨e, q1, y, q2, q3⟩ := hh a List.mem_cons_self
    subst q3
    have ih := lcL_mapN (xs := xs) (fe := fe) (s := s) (env := env) (g := g) (h := h) fun r hr => hh r (List.mem_cons_of_mem _ hr)
    rw [List.map_cons]
    unfold lcL
    rw [q1, ih]
    simp [q2, okT]
@[simp high] theorem Ok_if_none {α : Type} {c : Prop} [Decidable c] {p : Option α} {Q : α → Prop} : Ok (if c then p else none) Q ↔ c ∧ Ok p Q := Ok_of_if
@[simp high] theorem Ok_if_none' {α : Type} {c : Prop} [Decidable c] {p : Option α} {Q : α → Prop} : Ok (if c then none else p) Q ↔ ¬ c ∧ Ok p Q := by
  by_cases h : c <;> simp [h]
def Ext (T T' : Tb) : Prop := T <+: T'
theorem Ext.refl (T : Tb) : Ext T T := List.prefix_refl T
theorem Ext.trans {T T' T2 : Tb} (a : Ext T T') (b : Ext T' T2) : Ext T T2 := List.IsPrefix.trans a b
theorem Ext.get {T T' : Tb} (a : Ext T T') {n : Nat} {M : Option Mob} (h : T[n]? = some M) : T'[n]? = some M := by
  obtain ⟨l, hl⟩ := a
  rw [← hl, List.getElem?_append_left (List.getElem?_eq_some_iff.mp h).1]
  exact h
theorem Ext.app (T : Tb) (l : Tb) : Ext T (T ++ l) := List.prefix_append T l
theorem Ext.le {T T' : Tb} (h : Ext T T') : T.length ≤ T'.length := List.IsPrefix.length_le h
theorem Ext.set {T T' : Tb} (h : Ext T T') {n : Nat} {m : Option Mob} (hn : T.length ≤ n) : Ext T (T'.set n m) := by
  obtain ⟨l, rfl⟩ := h
  rw [List.set_append_right _ _ hn]
  exact Ext.app T _
@[simp] theorem pures_n : pures [] = some [] := rfl
@[simp] theorem pures_c {d : D} {xs : List HV} : pures (.pu d :: xs) = (pures xs).map (d :: ·) := rfl
theorem pures_map (ds : List D) : pures (ds.map .pu) = some ds := by
  induction ds with
  | nil => rfl
  | cons d ds ih => rw [List.map_cons, pures_c, ih]; rfl
mutual
def frzD : D → D
  | .lst xs => .tup (frzDs xs)
  | .tup xs => .tup (frzDs xs)
  | .scr xs => .tup (frzDs xs)
  | d => d
def frzDs : List D → List D
  | [] => []
  | d :: ds => frzD d :: frzDs ds
end
mutual
def okF : Nat → D → Bool
  | 0, _ => false
  | n + 1, .lst xs => okFs n xs && decide (xs.length ≤ lim)
  | n + 1, .tup xs => okFs n xs && decide (xs.length ≤ lim)
  | n + 1, .scr xs => okFs n xs && decide (xs.length ≤ lim)
  | _ + 1, .non => true
  | _ + 1, .bl _ => true
  | _ + 1, .int _ => true
  | _ + 1, .str _ => true
  | _ + 1, .ins _ _ _ => false
  | _ + 1, .dic _ _ => false
  | _ + 1, .exn _ _ _ => false
def okFs : Nat → List D → Bool
  | _, [] => true
  | n, d :: ds => okF n d && okFs n ds
end
@[simp] theorem kit24 : kitB "NoneType" "list" = some false := by decide +kernel
@[simp] theorem kit25 : kitB "bool" "list" = some false := by decide +kernel
@[simp] theorem kit26 : kitB "bool" "tuple" = some false := by decide +kernel
@[simp] theorem kit27 : kitB "int" "list" = some false := by decide +kernel
@[simp] theorem kit28 : kitB "str" "list" = some false := by decide +kernel
theorem okFs_mem {n : Nat} : ∀ {ds : List D}, okFs n ds = true → ∀ d ∈ ds, okF n d = true
  | [], _, d, h => by cases h
  | x :: xs, e, d, h => by
    have e : (okF n x && okFs n xs) = true := e
    rw [Bool.and_eq_true] at e
    rcases List.mem_cons.mp h with q | q
    · rw [q]; exact e.1
    · exact okFs_mem e.2 d q
theorem frzDs_map : ∀ ds : List D, frzDs ds = ds.map frzD
  | [] => rfl
  | d :: ds => by show frzD d :: frzDs ds = _; rw [frzDs_map ds]; rfl
theorem iRng_get {n : Nat} {k : Nat} {r : TD} (h : (iRng n 0)[k]? = some r) : k < n ∧ r = (.N, .int (k : Int)) := by
  unfold iRng at h
  rw [List.getElem?_map] at h
  obtain ⟨j, h1, rfl⟩ := Option.map_eq_some_iff.mp h
  have hi : k < n := by simpa using (List.getElem?_eq_some_iff.mp h1).1
  rw [List.getElem?_range hi] at h1
  cases h1
  exact ⟨hi, by simp⟩
theorem strOk_app {a b : Str} (h1 : PyData.strOk a = true) (h2 : PyData.strOk b = true) : PyData.strOk (a ++ b) = true := by
  unfold PyData.strOk at *
  show (a.cps ++ b.cps).all _ = true
  rw [Array.all_append, h1, h2]
  rfl
theorem cell_at {ns : List Int} (hn : LawOk ns) (t : Tg) {i : Int} (h0 : 0 ≤ i) (h1 : i < 1000) : ∃ c, g_law_cell [(t, .scr (ns.map D.int)), (.N, .int i)] = some (.N, .int c) := by
  obtain ⟨m, rfl⟩ : ∃ m : Nat, i = (m : Int) := ⟨i.toNat, by omega⟩
  exact ⟨_, g_law_cell_at hn (by omega)⟩
theorem seq_step {A B : SX} {env : Ev} {Q P : OutX → Prop} (hA : Ok (A env) P) (hB : ∀ o, P o → ∃ e, o = .nx e ∧ Ok (B e) Q) : Ok (zSeq A B env) Q := by
  obtain ⟨o, h1, h2⟩ := hA
  obtain ⟨e, rfl, r, h3, h4⟩ := hB o h2
  refine ⟨r, ?_, h4⟩
  unfold zSeq
  rw [h1]
  exact h3
theorem sq_step {A B : FS} {env : Ev} {Q P : Out → Prop} (hA : Ok (A env) P) (hB : ∀ o, P o → ∃ e, o = .nx e ∧ Ok (B e) Q) : Ok (sSeq A B env) Q := by
  obtain ⟨o, h1, h2⟩ := hA
  obtain ⟨e, rfl, r, h3, h4⟩ := hB o h2
  refine ⟨r, ?_, h4⟩
  show (A env).bind _ = _
  rw [h1]
  exact h3
def bigL (n : Nat) : List Int := List.replicate n 549755813888
def szD (ss : List Int) : D := .lst (ss.map D.int)
structure RowOk (hd rw : List Int) (n : Nat) : Prop where
  len : rw.length = hd.length + n
  h : ∀ k (hk : k < hd.length), ∃ d, atI (rw.map D.int) (k : Int) = some (.int d) ∧ 0 ≤ d ∧ d < hd[k]
  t : ∀ d ∈ rw.drop hd.length, 0 ≤ d ∧ d < 1099511627776
theorem row_at (c : Int) (hd : List Int) {n : Nat} (hn : hd.length + n ≤ 1000) (hs : ∀ s ∈ hd, 0 < s ∧ s < 4611686018427387904) : ∃ rw : List Int, g_law_digits [(.N, .int c), (.N, szD (hd ++ bigL n))] = some (.N, .lst (rw.map D.int)) ∧ RowOk hd rw n := by
  have hsz : SizesOk (hd ++ bigL n) := by
    refine ⟨fun s h => ?_, by simp [bigL]; omega⟩
    rcases List.mem_append.mp h with h | h
    · exact hs s h
    · have := List.eq_of_mem_replicate h
      subst this
      decide
  have hlen := digitsM_len c (hd ++ bigL n)
  refine ⟨digitsM c (hd ++ bigL n), g_law_digits_at hsz, ⟨by rw [hlen]; simp [bigL], fun k hk => ?_, fun d hd' => ?_⟩⟩
  · obtain ⟨d, e, h1, h2⟩ := digitsM_get (c := c) hsz k (by simp [bigL]; omega)
    rw [List.getElem_append_left hk] at h2
    exact ⟨d, atI_nat (by rw [List.getElem?_map, e]; rfl), h1, h2⟩
  · obtain ⟨j, hj⟩ := List.mem_iff_getElem?.mp hd'
    have hj9 := (List.getElem?_eq_some_iff.mp hj).1
    rw [List.length_drop, hlen] at hj9
    obtain ⟨d', e, h1, h2⟩ := digitsM_get (c := c) hsz (hd.length + j) (by omega)
    rw [List.getElem?_drop, e] at hj
    cases hj
    rw [List.getElem_append_right (by omega)] at h2
    simp [bigL] at h2
    omega
theorem row_at0 (c : Int) (hd : List Int) (hn : hd.length ≤ 1000) (hs : ∀ s ∈ hd, 0 < s ∧ s < 4611686018427387904) : ∃ rw : List Int, g_law_digits [(.N, .int c), (.N, .lst (hd.map D.int))] = some (.N, .lst (rw.map D.int)) ∧ RowOk hd rw 0 := by
  obtain ⟨rw, h1, h2⟩ := row_at c hd (n := 0) (by omega) hs
  refine ⟨rw, ?_, h2⟩
  have : hd ++ bigL 0 = hd := by simp [bigL]
  rw [this] at h1
  exact h1
def Pg (n : Nat) (d : D) : Prop := pyOk d = true ∧ (py d).canLay0 = true ∧ (py d).depth ≤ n
theorem pg_int (n : Nat) (i : Int) : Pg n (.int i) := ⟨rfl, rfl, by show 0 ≤ n; omega⟩
theorem pg_str (n : Nat) {z : Str} (h : PyData.strOk z = true) : Pg n (.str z) := ⟨rfl, h, by show 0 ≤ n; omega⟩
theorem pg_all {n : Nat} {ds : List D} (h : ∀ d ∈ ds, Pg n d) : pyOkL ds = true ∧ PyData.canLayAll0 (pyL ds) = true ∧ PyData.depthAll (pyL ds) ≤ n := by
  induction ds with
  | nil => exact ⟨rfl, rfl, Nat.zero_le _⟩
  | cons d ds ih =>
    obtain ⟨q1, q2, q3⟩ := ih fun x hx => h x (List.mem_cons_of_mem _ hx)
    obtain ⟨r1, r2, r3⟩ := h d List.mem_cons_self
    refine ⟨?_, ?_, ?_⟩
    · show (pyOk d && pyOkL ds) = true
      rw [q1, r1]; rfl
    · show PyData.canLayAll0 (py d :: pyL ds) = true
      rw [PyData.canLayAll0, q2, r2]; rfl
    · show PyData.depthAll (py d :: pyL ds) ≤ n
      rw [PyData.depthAll]
      omega
theorem pg_lst {n : Nat} {ds : List D} (h : ∀ d ∈ ds, Pg n d) : Pg (n + 1) (.lst ds) := by
  obtain ⟨q1, q2, q3⟩ := pg_all h
  refine ⟨by rw [pyOk]; exact q1, by rw [py, PyData.canLay0]; exact q2, ?_⟩
  rw [py, PyData.depth]
  omega
theorem pg_tup {n : Nat} {ds : List D} (h : ∀ d ∈ ds, Pg n d) : Pg (n + 1) (.tup ds) := by
  obtain ⟨q1, q2, q3⟩ := pg_all h
  refine ⟨by rw [pyOk]; exact q1, by rw [py, PyData.canLay0]; exact q2, ?_⟩
  rw [py, PyData.depth]
  omega
theorem whole_at (i : Int) : g_law_whole [(.N, .int i)] = some (.N, .bl true) := rfl
def noName (z : Str) : Bool := [D.str "num", D.str "mixed", D.str "unset"].any fun y => eqS y (.str z)
theorem zForX_go {fi : FIX} {s : TD → Ev → Option Ev} {A : SX} {env : Ev} {items : List TD} {T : Tb} (h : fi env = some (.val items T)) : zForX fi s A env = forZ A s items ⟨env.s, T⟩ := by
  rw [zForX_eq, h]
  rfl
theorem lcF_sel {ct : FXT} {fe : FX} {s : TD → Ev → Option Ev} {sl : List Sl} {T : Tb} {p : Nat → Bool} {h : Nat → D} : ∀ {js : List Nat}, (∀ j ∈ js, ∃ e : List Sl, s (.N, .int (0 + (j : Int))) ⟨sl, T⟩ = some ⟨e, T⟩ ∧ ct ⟨e, T⟩ = some (.val (p j) T) ∧ fe ⟨e, T⟩ = some (.val (.pu (h j)) T)) →
    lcF ct fe s sl (js.map fun j : Nat => (Tg.N, D.int (0 + (j : Int)))) T = some ((js.filter p).map fun j : Nat => HV.pu (h j), T)
  | [], _ => by unfold lcF; rfl
  | j :: js, hh => by
    obtain ⟨e, h1, h2, h3⟩ := hh j List.mem_cons_self
    have ih := lcF_sel (js := js) (ct := ct) (fe := fe) (s := s) (sl := sl) (T := T) (p := p) (h := h) fun r hr => hh r (List.mem_cons_of_mem _ hr)
    have e1 : valX (ct ⟨e, T⟩) = some (p j, T) := by rw [h2]; rfl
    have e2 : valX (fe ⟨e, T⟩) = some (.pu (h j), T) := by rw [h3]; rfl
    rw [List.map_cons]
    cases hb : p j with
    | true =>
      rw [lcF, if_pos (show okT (Tg.N, D.int (0 + (j : Int))).1 = true from rfl), h1, List.filter_cons_of_pos hb]
      rw [hb] at e1
      generalize (js.map fun j : Nat => (Tg.N, D.int (0 + (j : Int)))) = LL at *
      simp [e1, e2, ih]
    | false =>
      rw [lcF, if_pos (show okT (Tg.N, D.int (0 + (j : Int))).1 = true from rfl), h1, List.filter_cons_of_neg (by rw [hb]; decide)]
      rw [hb] at e1
      generalize (js.map fun j : Nat => (Tg.N, D.int (0 + (j : Int)))) = LL at *
      simp [e1, ih]
theorem xLcR_go {fi : FIX} {s : TD → Ev → Option Ev} {ct : FXT} {fe : FX} {vs : List Nat} {l : List Sl} {T T2 : Tb} {items : List TD} {out : List HV} (hfree : ownFree l = true) (hf : fi ⟨l, T⟩ = some (.val items T)) (hl : items.length ≤ lim) (hc : lcF ct fe s (wipeE ⟨l, T⟩ vs).s items T = some (out, T2)) : xLcR fi s ct fe vs ⟨l, T⟩ = some (.val (.ob T2.length) (T2 ++ [some (.lst out)])) := by
  rw [xLcR_eq, if_pos hfree, hf]
  show (if items.length ≤ lim then _ else _) = _
  rw [if_pos hl, hc]
  rfl
theorem RowOk.ix {hd rw : List Int} (h : RowOk hd rw 0) (k : Nat) (hk : k < hd.length) : ∃ d, oIx (.N, .lst (rw.map D.int)) (.N, .int (k : Int)) = some (.N, .int d) ∧ 0 ≤ d ∧ d < hd[k] := by
  obtain ⟨d, e, h1, h2⟩ := h.h k hk
  refine ⟨d, ?_, h1, h2⟩
  show (atI (rw.map D.int) (k : Int)).map _ = _
  rw [e]
  rfl
theorem whZ_ok {c : FXT} {A : SX} {Q : OutX → Prop} (I : Nat → Ev → Prop) : ∀ (m n : Nat) {env : Ev}, m < n → I m env →
    (∀ (m : Nat) (env : Ev), I m env → Ok (c env) fun r => ∃ b T, r = .val b T ∧ (b = true → Ok (A ⟨env.s, T⟩) fun o => match o with
      | .nx e => ∃ m', m' < m ∧ I m' e
      | .ct e => ∃ m', m' < m ∧ I m' e
      | .bk e => Q (.nx e)
      | o => Q o) ∧ (b = false → Q (.nx ⟨env.s, T⟩))) → Ok (whZ c A n env) Q := by
  intro m
  induction m using Nat.strongRecOn with
  | ind m ih =>
    intro n env hn hI hs
    obtain ⟨n, rfl⟩ : ∃ k, n = k + 1 := ⟨n - 1, by omega⟩
    obtain ⟨r, e1, b, T, rfl, q1, q2⟩ := hs m env hI
    unfold whZ
    rw [e1]
    cases b with
    | false => exact ⟨_, rfl, q2 rfl⟩
    | true =>
      obtain ⟨o, e2, q3⟩ := q1 rfl
      show Ok ((A ⟨env.s, T⟩).bind _) Q
      rw [e2]
      cases o with
      | nx e => obtain ⟨m', h1, h2⟩ := q3; exact ih m' h1 n (by omega) h2 hs
      | ct e => obtain ⟨m', h1, h2⟩ := q3; exact ih m' h1 n (by omega) h2 hs
      | bk e => exact ⟨_, rfl, q3⟩
      | rt x T => exact ⟨_, rfl, q3⟩
      | ex c ns xs e => exact ⟨_, rfl, q3⟩
end Lw
namespace Lw
open PySem L2 Vf
/-! octets: where a number ends, what it says -/
def runL : List Int → Nat
  | [] => 0
  | z :: zs => if 128 ≤ z then runL zs + 1 else 0
theorem runL_le : ∀ l, runL l ≤ l.length
  | [] => Nat.le_refl _
  | z :: zs => by
    unfold runL
    have := runL_le zs
    split
    · simp; omega
    · omega
theorem runL_in : ∀ {l : List Int} {i : Nat}, i < runL l → ∃ z, l[i]? = some z ∧ 128 ≤ z
  | [], _, h => by cases h
  | z :: zs, i, h => by
    unfold runL at h
    split at h
    · cases i with
      | zero => exact ⟨z, rfl, by omega⟩
      | succ i => exact runL_in (l := zs) (i := i) (by omega)
    · cases h
theorem runL_at : ∀ {l : List Int}, runL l < l.length → ∃ z, l[runL l]? = some z ∧ z < 128
  | [], h => by cases h
  | z :: zs, h => by
    unfold runL at h ⊢
    split at h
    · rename_i hz
      rw [if_pos hz]
      exact runL_at (l := zs) (by simp at h; omega)
    · rename_i hz
      rw [if_neg hz]
      exact ⟨z, rfl, by omega⟩
def endI (os : List Int) (s : Nat) : Nat := s + runL (os.drop s)
section
variable {os : List Int} {s : Nat}
theorem endI_ge : s ≤ endI os s := Nat.le_add_right _ _
theorem endI_le (h : s ≤ os.length) : endI os s ≤ os.length := by
  have := runL_le (os.drop s)
  rw [List.length_drop] at this
  unfold endI
  omega
theorem endI_in {i : Nat} (h1 : s ≤ i) (h2 : i < endI os s) : ∃ z, os[i]? = some z ∧ 128 ≤ z := by
  obtain ⟨z, h3, h4⟩ := runL_in (l := os.drop s) (i := i - s) (by unfold endI at h2; omega)
  rw [List.getElem?_drop, show s + (i - s) = i by omega] at h3
  exact ⟨z, h3, h4⟩
theorem endI_at (h : endI os s < os.length) : ∃ z, os[endI os s]? = some z ∧ z < 128 := by
  obtain ⟨z, h3, h4⟩ := runL_at (l := os.drop s) (by rw [List.length_drop]; unfold endI at h; omega)
  rw [List.getElem?_drop] at h3
  exact ⟨z, h3, h4⟩
end
def numR : Int → List Int → Int
  | n, [] => n
  | n, z :: zs => numR (n * 128 + z % 128) zs
theorem numR_app : ∀ (xs : List Int) (n z : Int), numR n (xs ++ [z]) = numR n xs * 128 + z % 128
  | [], _, _ => rfl
  | x :: xs, n, z => numR_app xs _ z
def bd : Nat → Int
  | 0 => 1
  | k + 1 => bd k * 128
theorem bd_le : ∀ {k : Nat}, k ≤ 5 → bd k ≤ 34359738368 := fun {k} h => by
  have : k = 0 ∨ k = 1 ∨ k = 2 ∨ k = 3 ∨ k = 4 ∨ k = 5 := by omega
  rcases this with rfl | rfl | rfl | rfl | rfl | rfl <;> decide
theorem numR_bd : ∀ (zs : List Int) (a : Nat) (n : Int), 0 ≤ n → n < bd a → 0 ≤ numR n zs ∧ numR n zs < bd (a + zs.length)
  | [], _, _, h0, h1 => ⟨h0, h1⟩
  | z :: zs, a, n, h0, h1 => by
    have := numR_bd zs (a + 1) (n * 128 + z % 128) (by omega) (by show _ < bd a * 128; omega)
    rw [List.length_cons, show a + (zs.length + 1) = a + 1 + zs.length by omega]
    exact this
theorem numR_sm {r : List Int} {k : Nat} (hr : r.length ≤ 5) : -18446744073709551616 < numR 0 (r.take k) ∧ numR 0 (r.take k) < 18446744073709551616 := by
  have h := numR_bd (r.take k) 0 0 (by decide) (by decide)
  have h2 := bd_le (k := 0 + (r.take k).length) (by rw [List.length_take]; omega)
  omega
theorem numR_tk {r : List Int} {k : Nat} {z : Int} (h : r[k]? = some z) : numR 0 (r.take (k + 1)) = numR 0 (r.take k) * 128 + z % 128 := by
  rw [List.take_succ, h]
  exact numR_app _ _ _
/-- the octets of the number, the last first -/
def pcR (os : List Int) (s : Nat) : List Int := ((os.drop s).take (endI os s + 1 - s)).reverse
theorem pcR_len {os : List Int} {s : Nat} (h : endI os s < os.length) : (pcR os s).length = endI os s + 1 - s := by
  unfold pcR
  have := endI_ge (os := os) (s := s)
  rw [List.length_reverse, List.length_take, List.length_drop]
  omega
theorem pcR_get {os : List Int} {s k : Nat} (h : endI os s < os.length) (hk : k < endI os s + 1 - s) : (pcR os s)[k]? = os[endI os s - k]? := by
  have e := endI_ge (os := os) (s := s)
  have hl : ((os.drop s).take (endI os s + 1 - s)).length = endI os s + 1 - s := by rw [List.length_take, List.length_drop]; omega
  unfold pcR
  rw [List.getElem?_reverse (by rw [hl]; exact hk), hl, List.getElem?_take, if_pos (by omega), List.getElem?_drop, show s + (endI os s + 1 - s - 1 - k) = endI os s - k by omega]
/-- a number that is too long, or whose last octet is 0 -/
def badN (os : List Int) (s : Nat) : Bool := decide (5 ≤ endI os s - s) || (decide (s < endI os s) && decide (os[endI os s]? = some 0))
def dueO (os : List Int) (s : Nat) : Option Int × Int :=
  if os.length ≤ endI os s then (none, (os.length : Int)) else if badN os s then (none, (s : Int)) else (some (numR 0 (pcR os s)), ((endI os s : Nat) : Int) + 1)
def dueD (os : List Int) (s : Nat) : D := .lst [match (dueO os s).1 with | none => .non | some n => .int n, .int (dueO os s).2]
theorem cutD_mid {xs : List D} {a b : Nat} (h1 : a ≤ b) (h2 : b ≤ xs.length) : cutD xs (some (a : Int)) (some (b : Int)) = (xs.drop a).take (b - a) := by
  unfold cutD
  rw [HT.sIx_nat, HT.sIx_nat, Nat.min_eq_left h2, Nat.min_eq_left (by omega)]
/-- octets, in a list of the table or in a tuple -/
structure Oct (T : Tb) (x : HV) (os : List Int) : Prop where
  ok : ∀ z ∈ os, 0 ≤ z ∧ z ≤ 255
  le : os.length ≤ 200
  len : lenK x T = some (.val (.pu (.int (os.length : Nat))) T)
  ix : ∀ (i : Nat) (z : Int), os[i]? = some z → ixX T x (i : Int) = some (.pu (.int z))
  sl : ∀ lo hi, ∃ d, slP x T lo hi = some (.val (.pu d) T) ∧ itemsRev (.N, d) = some ((cutD (os.map D.int) lo hi).reverse.map fun d => nm (.N, d))
theorem oct_l {T : Tb} {n : Nat} {os : List Int} (h : T[n]? = some (some (.lst (os.map fun z => HV.pu (.int z))))) (ho : ∀ z ∈ os, 0 ≤ z ∧ z ≤ 255) (hl : os.length ≤ 200) : Oct T (.ob n) os where
  ok := ho
  le := hl
  len := by
    unfold lenK
    simp only [h]
    unfold srcM
    simp only [h]
    simp [mobI]
  ix := fun i z hz => by
    rw [ixX_lst h]
    exact atI_nat (by rw [List.getElem?_map, hz]; rfl)
  sl := fun lo hi => ⟨_, slP_ob h (by have := pures_map (os.map D.int); rw [List.map_map] at this; exact this), rfl⟩
theorem oct_t {T : Tb} {os : List Int} (ho : ∀ z ∈ os, 0 ≤ z ∧ z ≤ 255) (hl : os.length ≤ 200) : Oct T (.pu (.tup (os.map D.int))) os where
  ok := ho
  le := hl
  len := by
    have e : lenB [(.N, .tup (os.map D.int))] = some (.N, .int (os.length : Nat)) := by simp
    unfold lenK
    dsimp only
    rw [e]; rfl
  ix := fun i z hz => by
    have e : ixD (.N, .tup (os.map D.int)) (i : Int) = some (.N, .int z) := by
      show (atI (os.map D.int) (i : Int)).map _ = _
      rw [show atI (os.map D.int) (i : Int) = some (.int z) from atI_nat (by rw [List.getElem?_map, hz]; rfl)]
      rfl
    show (ixD (.N, .tup (os.map D.int)) (i : Int)).bind _ = _
    rw [e]; rfl
  sl := fun lo hi => ⟨.tup (cutD (os.map D.int) lo hi), by rw [slP_pu]; rfl, rfl⟩
end Lw
namespace Lw
open PySem L2 Vf
/-! decode_number -/
theorem hV0 {x : HV} {l : List Sl} {T : Tb} : hVar 0 ⟨slH x :: l, T⟩ = some x := by cases x <;> rfl
section
variable {T : Tb} {x : HV} {os : List Int} {s : Nat}
theorem dec_loop (h : Oct T x os) (hs : s ≤ os.length) {s3 s4 : Sl} : Ok (zWh (xAndT (xBl (xOp oLt (xE (sVar 2)) (xLen (xH (hVar 0))))) (xBl (xOp oGe (xIx (xH (hVar 0)) (xE (sVar 2))) (xE (sLit G_GROUP))))) B_decode_number_1 ⟨[slH x, .val .N (.int (s : Int)), .val .N (.int (s : Int)), s3, s4], T⟩)
    fun o => o = .nx ⟨[slH x, .val .N (.int (s : Int)), .val .N (.int ((endI os s : Nat) : Int)), s3, s4], T⟩ := by
  show Ok (whZ _ _ fuel _) _
  have hx : ∀ l, hVar 0 ⟨slH x :: l, T⟩ = some x := fun l => hV0
  have hle := endI_le hs
  have h200 := h.le
  have hge := endI_ge (os := os) (s := s)
  refine whZ_ok (fun m e => ∃ k : Nat, s ≤ k ∧ k + m = endI os s ∧ e = ⟨[slH x, .val .N (.int (s : Int)), .val .N (.int (k : Int)), s3, s4], T⟩) (endI os s - s) fuel (by unfold fuel; omega) ⟨s, by omega, by omega, rfl⟩ ?_
  rintro m _ ⟨k, h1, h2, rfl⟩
  generalize slH x = S at *
  have hlen := h.len
  by_cases hm : m = 0
  · subst hm
    have hk : k = endI os s := by omega
    subst hk
    by_cases hlt : endI os s < os.length
    · obtain ⟨z, z1, z2⟩ := endI_at hlt
      have hi := h.ix _ _ z1
      refine ⟨.val false T, ?_, false, T, rfl, (fun q => by cases q), fun _ => rfl⟩
      exact Ok.eq (by simp [hx, hlen, hi, hlt, G_GROUP, show ¬ (128 ≤ z) by omega])
    · refine ⟨.val false T, ?_, false, T, rfl, (fun q => by cases q), fun _ => rfl⟩
      exact Ok.eq (by simp [hx, hlen, hlt])
  · obtain ⟨z, z1, z2⟩ := endI_in (os := os) (s := s) (i := k) h1 (by omega)
    have hi := h.ix _ _ z1
    have hlt : k < os.length := by omega
    refine ⟨.val true T, ?_, true, T, rfl, (fun _ => ?_), fun q => by cases q⟩
    · exact Ok.eq (by simp [hx, hlen, hi, hlt, G_GROUP, z2])
    · unfold B_decode_number_1
      refine ⟨.nx ⟨[S, .val .N (.int (s : Int)), .val .N (.int ((k : Int) + 1)), s3, s4], T⟩, Ok.eq (by simp), m - 1, by omega, k + 1, by omega, by omega, by simp⟩
theorem dec_num (h : Oct T x os) (hL : endI os s < os.length) (h5 : endI os s - s ≤ 4) {s4 : Sl} : Ok (zForX (xRevI (xSlP (xH (hVar 0)) (sPt (sVar 1)) (sPt (sOp oAdd (sVar 2) (sLit (.int 1)))))) (setV 4)
  B_decode_number_2 ⟨[slH x, .val .N (.int (s : Int)), .val .N (.int ((endI os s : Nat) : Int)), .val .N (.int 0), s4], T⟩)
    fun o => ∃ s4, o = .nx ⟨[slH x, .val .N (.int (s : Int)), .val .N (.int ((endI os s : Nat) : Int)), .val .N (.int (numR 0 (pcR os s))), s4], T⟩ := by
  have hx : ∀ l, hVar 0 ⟨slH x :: l, T⟩ = some x := fun l => hV0
  have hge := endI_ge (os := os) (s := s)
  obtain ⟨d, d1, d2⟩ := h.sl (some (s : Int)) (some ((endI os s + 1 : Nat) : Int))
  rw [cutD_mid (by omega) (by rw [List.length_map]; omega)] at d2
  have d2 : itemsRev (.N, d) = some ((pcR os s).map fun z => (Tg.N, D.int z)) := by
    rw [d2]
    unfold pcR
    rw [← List.map_drop, ← List.map_take, ← List.map_reverse, List.map_map]
    rfl
  have hf : (xRevI (xSlP (xH (hVar 0)) (sPt (sVar 1)) (sPt (sOp oAdd (sVar 2) (sLit (.int 1)))))) ⟨[slH x, .val .N (.int (s : Int)), .val .N (.int ((endI os s : Nat) : Int)), .val .N (.int 0), s4], T⟩ = some (.val ((pcR os s).map fun z => (Tg.N, D.int z)) T) := by
    generalize slH x = S at *
    have e1 : ((endI os s : Nat) : Int) + 1 = ((endI os s + 1 : Nat) : Int) := by omega
    generalize (pcR os s).map (fun z => (Tg.N, D.int z)) = LL at *
    generalize ((endI os s + 1 : Nat) : Int) = B at *
    generalize ((endI os s : Nat) : Int) = E at *
    exact Ok.eq (by simp [hx, e1, d1, d2])
  rw [zForX_go hf]
  have hpl : (pcR os s).length ≤ 5 := by rw [pcR_len hL]; omega
  refine forZ_ok (fun k e => ∃ s4, e = ⟨[slH x, .val .N (.int (s : Int)), .val .N (.int ((endI os s : Nat) : Int)), .val .N (.int (numR 0 ((pcR os s).take k))), s4], T⟩) ⟨s4, rfl⟩ ?_ ?_
  · rintro k r _ hr ⟨s4, rfl⟩
    rw [List.getElem?_map] at hr
    obtain ⟨z, hz, rfl⟩ := Option.map_eq_some_iff.mp hr
    refine ⟨_, rfl, .nx ⟨[slH x, .val .N (.int (s : Int)), .val .N (.int ((endI os s : Nat) : Int)), .val .N (.int (numR 0 ((pcR os s).take k) * 128 + z % 128)), .val .N (.int z)], T⟩, ?_, .val .N (.int z), ?_⟩
    · have hb : bitsOk (numR 0 ((pcR os s).take k)) 128 = true := bits_sm (numR_sm hpl).1 (numR_sm hpl).2 (by decide) (by decide)
      generalize slH x = S at *
      generalize numR 0 ((pcR os s).take k) = N at *
      unfold B_decode_number_2
      exact Ok.eq (by simp [G_GROUP, hb])
    · rw [numR_tk hz]
  · rintro _ ⟨s4, rfl⟩
    rw [List.length_map, List.take_of_length_le (Nat.le_refl _)]
    exact ⟨_, rfl⟩
theorem bc_ini (n : Int) : g_BadCode_init [.int n] = some [(("at" : Str), D.int n)] := rfl
theorem decode_at (h : Oct T x os) (hs : s ≤ os.length) : g_decode_number [x, .pu (.int (s : Int))] T = some (match (dueO os s).1 with
    | none => .exc "BadCode" ["at"] [.pu (.int (dueO os s).2)] T
    | some n => .val (.pu (.tup [.int n, .int (dueO os s).2])) T) := by
  have hx : ∀ l, hVar 0 ⟨slH x :: l, T⟩ = some x := fun l => hV0
  have hge := endI_ge (os := os) (s := s)
  have hle := endI_le hs
  have hlen := h.len
  have l2 : 2 ≤ lim := by decide
  unfold g_decode_number
  refine (gFX_at (by rfl)).trans ?_
  have e0 : env0H N_decode_number.length [x, .pu (.int (s : Int))] T = ⟨[slH x, .val .N (.int (s : Int)), .un, .un, .un], T⟩ := rfl
  rw [e0]
  refine Ok.eq ?_
  rw [Ok_bind]
  unfold F_decode_number
  refine seq_step (P := fun o => o = .nx ⟨[slH x, .val .N (.int (s : Int)), .val .N (.int (s : Int)), .un, .un], T⟩) (by generalize slH x = S at *; simp) ?_
  rintro o rfl
  refine ⟨_, rfl, ?_⟩
  refine seq_step (dec_loop h hs) ?_
  rintro o rfl
  refine ⟨_, rfl, ?_⟩
  by_cases hL : os.length ≤ endI os s
  · have hd : dueO os s = (none, (os.length : Int)) := by unfold dueO; rw [if_pos hL]
    rw [hd]
    have hc : ((os.length : Nat) : Int) ≤ ((endI os s : Nat) : Int) := by omega
    have hb := bc_ini (os.length : Int)
    generalize ((endI os s : Nat) : Int) = E at *
    generalize slH x = S at *
    rw [zSeq_eq]
    have e1 : (zIf (xBl (xOp oGe (xE (sVar 2)) (xLen (xH (hVar 0)))))
      (zRaise "BadCode" g_BadCode_init (xCons (xLen (xH (hVar 0))) xNil))
      zNx) ⟨[S, .val .N (.int (s : Int)), .val .N (.int E), .un, .un], T⟩ = some (.ex "BadCode" ["at"] [.pu (.int (os.length : Int))] ⟨[S, .val .N (.int (s : Int)), .val .N (.int E), .un, .un], T⟩) := Ok.eq (by simp [hx, hlen, hc, hb])
    rw [e1]
    exact ⟨_, rfl, _, rfl, rfl⟩
  · have hL : endI os s < os.length := by omega
    obtain ⟨z, z1, z2⟩ := endI_at hL
    have hi := h.ix _ _ z1
    refine seq_step (P := fun o => o = .nx ⟨[slH x, .val .N (.int (s : Int)), .val .N (.int ((endI os s : Nat) : Int)), .un, .un], T⟩) ?_ ?_
    · have hc : ¬ ((os.length : Nat) : Int) ≤ ((endI os s : Nat) : Int) := by omega
      generalize ((endI os s : Nat) : Int) = E at *
      generalize slH x = S at *
      simp [hx, hlen, hc]
    rintro o rfl
    refine ⟨_, rfl, ?_⟩
    by_cases hB : badN os s = true
    · have hd : dueO os s = (none, (s : Int)) := by unfold dueO; rw [if_neg (by omega), if_pos hB]
      rw [hd]
      have hb := bc_ini (s : Int)
      rw [zSeq_eq]
      have e1 : (zIf (xOrT (xP (sBl (sOp oGe (sOp oSub (sVar 2) (sVar 1)) (sLit G_MOST_OCTETS)))) (xAndT (xP (sBl (sOp oGt (sVar 2) (sVar 1)))) (xBl (xOp oEq (xIx (xH (hVar 0)) (xE (sVar 2))) (xE (sLit (.int 0)))))))
        (zRaise "BadCode" g_BadCode_init (xCons (xE (sVar 1)) xNil))
        zNx) ⟨[slH x, .val .N (.int (s : Int)), .val .N (.int ((endI os s : Nat) : Int)), .un, .un], T⟩ = some (.ex "BadCode" ["at"] [.pu (.int (s : Int))] ⟨[slH x, .val .N (.int (s : Int)), .val .N (.int ((endI os s : Nat) : Int)), .un, .un], T⟩) := by
        unfold badN at hB
        rw [z1] at hB
        by_cases h5 : 5 ≤ endI os s - s
        · have c5 : (5 : Int) ≤ ((endI os s : Nat) : Int) - (s : Int) := by omega
          generalize ((endI os s : Nat) : Int) = E at *
          generalize slH x = S at *
          exact Ok.eq (by simp [G_MOST_OCTETS, c5, hb])
        · have c5 : ¬ (5 : Int) ≤ ((endI os s : Nat) : Int) - (s : Int) := by omega
          simp [h5] at hB
          have c6 : (s : Int) < ((endI os s : Nat) : Int) := by omega
          obtain ⟨_, rfl⟩ := hB
          generalize ((endI os s : Nat) : Int) = E at *
          generalize slH x = S at *
          exact Ok.eq (by simp [G_MOST_OCTETS, c5, c6, hb, hx, hi])
      rw [e1]
      exact ⟨_, rfl, _, rfl, rfl⟩
    · have hB : badN os s = false := by simpa using hB
      have hd : dueO os s = (some (numR 0 (pcR os s)), ((endI os s : Nat) : Int) + 1) := by unfold dueO; rw [if_neg (by omega), hB]; rfl
      rw [hd]
      unfold badN at hB
      rw [z1] at hB
      have h5 : ¬ 5 ≤ endI os s - s := by
        intro q
        simp [q] at hB
      refine seq_step (P := fun o => o = .nx ⟨[slH x, .val .N (.int (s : Int)), .val .N (.int ((endI os s : Nat) : Int)), .un, .un], T⟩) ?_ ?_
      · have c5 : ¬ (5 : Int) ≤ ((endI os s : Nat) : Int) - (s : Int) := by omega
        simp [h5] at hB
        by_cases c6 : s < endI os s
        · have hz := hB c6
          have c7 : (s : Int) < ((endI os s : Nat) : Int) := by omega
          generalize ((endI os s : Nat) : Int) = E at *
          generalize slH x = S at *
          simp [G_MOST_OCTETS, c5, c7, hx, hi, hz]
        · have c7 : ¬ (s : Int) < ((endI os s : Nat) : Int) := by omega
          generalize ((endI os s : Nat) : Int) = E at *
          generalize slH x = S at *
          simp [G_MOST_OCTETS, c5, c7]
      rintro o rfl
      refine ⟨_, rfl, ?_⟩
      refine seq_step (P := fun o => o = .nx ⟨[slH x, .val .N (.int (s : Int)), .val .N (.int ((endI os s : Nat) : Int)), .val .N (.int 0), .un], T⟩) (by generalize slH x = S at *; simp) ?_
      rintro o rfl
      refine ⟨_, rfl, ?_⟩
      refine seq_step (dec_num h hL (by omega)) ?_
      rintro o ⟨s4, rfl⟩
      refine ⟨_, rfl, ?_⟩
      generalize ((endI os s : Nat) : Int) = E at *
      generalize slH x = S at *
      generalize numR 0 (pcR os s) = N at *
      simp [tupK, l2]
end
end Lw
namespace Lw
open PySem L2 Vf
theorem lcL_filN {α : Type} {ct : FT} {fe : FE} {s : TD → Ev → Option Ev} {env : Ev} {g h : α → D} {p : α → Bool} : ∀ {xs : List α}, (∀ a ∈ xs, Ok (s (.N, g a) env) fun e => ct e = some (p a) ∧ fe e = some (.N, h a)) → lcL ct fe s env (xs.map fun a => (Tg.N, g a)) = some ((xs.filter p).map fun a => (Tg.N, h a))
  | [], _ => rfl
  | a :: xs, hh => by
    obtain ⟨e, q1, q2, q3⟩ := hh a List.mem_cons_self
    have ih := lcL_filN (xs := xs) (ct := ct) (fe := fe) (s := s) (env := env) (g := g) (h := h) (p := p) fun r hr => hh r (List.mem_cons_of_mem _ hr)
    rw [List.map_cons]
    unfold lcL
    rw [q1, ih]
    cases hb : p a with
    | false => simp [q2, hb]
    | true => simp [q2, hb, q3, okT]
theorem tagL_Nm {α : Type} (xs : List α) (g : α → D) : tagL (xs.map fun a => (Tg.N, g a)) = .N := tagL_N fun r hr => by
  obtain ⟨z, _, rfl⟩ := List.mem_map.mp hr
  rfl
/-! the law's own reading -/
theorem ixT_int {rw : List Int} {i : Nat} {z : Int} (h : rw[i]? = some z) : oIx (.B, .lst (rw.map D.int)) (.N, .int (i : Int)) = some (.N, .int z) := by
  have q : atI (rw.map D.int) (i : Int) = some (.int z) := atI_nat (by rw [List.getElem?_map, h]; rfl)
  refine Ok.eq ?_
  generalize rw.map D.int = xs at q
  simp [q]
section
variable {os : List Int} {s : Nat}
def fndL (os : List Int) (s : Nat) : List Nat := (List.range (os.length - s)).filter fun j => decide ((os[s + j]?).getD 0 < 128)
theorem fnd_none (h : os.length ≤ endI os s) : fndL os s = [] := by
  unfold fndL
  rw [List.filter_eq_nil_iff]
  intro j hj
  rw [List.mem_range] at hj
  obtain ⟨z, h1, h2⟩ := endI_in (os := os) (s := s) (i := s + j) (by omega) (by omega)
  rw [h1]
  simp
  omega
theorem fnd_some (h : endI os s < os.length) : ∃ R, fndL os s = (endI os s - s) :: R := by
  have hge := endI_ge (os := os) (s := s)
  have e : (fndL os s).head? = some (endI os s - s) := by
    unfold fndL
    rw [List.head?_filter, List.find?_range_eq_some]
    refine ⟨?_, List.mem_range.mpr (by omega), fun j hj => ?_⟩
    · obtain ⟨z, h1, h2⟩ := endI_at h
      rw [show s + (endI os s - s) = endI os s by omega, h1]
      simp; omega
    · obtain ⟨z, h1, h2⟩ := endI_in (os := os) (s := s) (i := s + j) (by omega) (by omega)
      rw [h1]
      simp; omega
  cases q : fndL os s with
  | nil => rw [q] at e; cases e
  | cons a R =>
    rw [q] at e
    cases e
    exact ⟨R, rfl⟩
theorem found_at (hl : os.length ≤ 200) (hs : s ≤ os.length) : (sL (sLc (sR2 (sVar 1) (sB lenB (sCons (sVar 0) sNil))) (setV 3) (sBl (sOp oLt (sOp oIx (sVar 0) (sVar 3)) (sLit (.int 128)))) (sVar 3) [3])) ⟨[.val .B (.lst (os.map D.int)), .val .N (.int (s : Int)), .un, .un, .un, .un], []⟩ = some (.N, .lst ((fndL os s).map fun j : Nat => D.int ((s : Int) + (j : Int)))) := by
  have hln : (os.map D.int).length = os.length := List.length_map _
  have hlim : os.length ≤ lim := by unfold lim; omega
  have hi : (sR2 (sVar 1) (sB lenB (sCons (sVar 0) sNil))) ⟨[.val .B (.lst (os.map D.int)), .val .N (.int (s : Int)), .un, .un, .un, .un], []⟩ = some ((List.range (os.length - s)).map fun j : Nat => (Tg.N, D.int ((s : Int) + (j : Int)))) := by
    have e1 : iRng (((os.length : Nat) : Int) - (s : Int)).toNat (s : Int) = (List.range (os.length - s)).map fun j : Nat => (Tg.N, D.int ((s : Int) + (j : Int))) := by
      unfold iRng
      rw [show (((os.length : Nat) : Int) - (s : Int)).toNat = os.length - s by omega]
    rw [← e1]
    generalize os.map D.int = OL at *
    refine Ok.eq ?_
    simp [hln]
    omega
  have hc := lcL_filN (ct := (sBl (sOp oLt (sOp oIx (sVar 0) (sVar 3)) (sLit (.int 128))))) (fe := sVar 3) (s := setV 3) (env := wipeE ⟨[.val .B (.lst (os.map D.int)), .val .N (.int (s : Int)), .un, .un, .un, .un], []⟩ [3]) (g := fun j : Nat => D.int ((s : Int) + (j : Int))) (h := fun j : Nat => D.int ((s : Int) + (j : Int)))
    (p := fun j => decide ((os[s + j]?).getD 0 < 128)) (xs := List.range (os.length - s)) fun j hj => by
      rw [List.mem_range] at hj
      obtain ⟨z, hz⟩ : ∃ z, os[s + j]? = some z := ⟨_, List.getElem?_eq_getElem (by omega)⟩
      have hx := ixT_int hz
      clear hi
      rw [hz]
      refine ⟨⟨[.val .B (.lst (os.map D.int)), .val .N (.int (s : Int)), .un, .val .N (.int ((s : Int) + (j : Int))), .un, .un], []⟩, rfl, ?_, rfl⟩
      have e2 : (((s + j : Nat) : Int)) = (s : Int) + (j : Int) := by omega
      rw [e2] at hx
      generalize os.map D.int = OL at *
      generalize (s : Int) + (j : Int) = K at *
      exact Ok.eq (by simp [hx])
  have hn : ((List.range (os.length - s)).map fun j : Nat => (Tg.N, D.int ((s : Int) + (j : Int)))).length ≤ lim := by rw [List.length_map, List.length_range]; unfold lim; omega
  have h9 : (sLc (sR2 (sVar 1) (sB lenB (sCons (sVar 0) sNil))) (setV 3) (sBl (sOp oLt (sOp oIx (sVar 0) (sVar 3)) (sLit (.int 128)))) (sVar 3) [3]) ⟨[.val .B (.lst (os.map D.int)), .val .N (.int (s : Int)), .un, .un, .un, .un], []⟩ = some (.N, (fndL os s).map fun j : Nat => D.int ((s : Int) + (j : Int))) := by
    unfold sLc
    rw [hi, Option.bind_some, if_pos hn, hc]
    show some (tagL _, _) = _
    rw [tagL_Nm, List.map_map]
    rfl
  unfold sL
  rw [h9]
  rfl
theorem read_at (ho : ∀ z ∈ os, 0 ≤ z ∧ z ≤ 255) (hl : os.length ≤ 200) (hs : s ≤ os.length) : g_law_read_at [(.B, .lst (os.map D.int)), (.N, .int (s : Int))] = some (.N, dueD os s) := by
  have hge := endI_ge (os := os) (s := s)
  have hle := endI_le hs
  have l2 : 2 ≤ lim := by decide
  have hln : (os.map D.int).length = os.length := List.length_map _
  have hlim : os.length ≤ lim := by unfold lim; omega
  unfold g_law_read_at
  refine (gF_at (by rfl) (by rfl)).trans ?_
  have e0 : env0 N_law_read_at.length [(.B, .lst (os.map D.int)), (.N, .int (s : Int))] = ⟨[.val .B (.lst (os.map D.int)), .val .N (.int (s : Int)), .un, .un, .un, .un], []⟩ := rfl
  rw [e0]
  refine Ok.eq ?_
  rw [Ok_bind]
  unfold F_law_read_at
  have hix := fun (k : Nat) (z : Int) (h : os[k]? = some z) => ixT_int h
  have hfl : (fndL os s).length ≤ lim := by
    have := List.length_filter_le (fun j => decide ((os[s + j]?).getD 0 < 128)) (List.range (os.length - s))
    rw [List.length_range] at this
    unfold fndL lim
    omega
  refine sq_step (P := fun o => o = .nx ⟨[.val .B (.lst (os.map D.int)), .val .N (.int (s : Int)), .val .N (.lst ((fndL os s).map fun j : Nat => D.int ((s : Int) + (j : Int)))), .un, .un, .un], []⟩) ?_ ?_
  · have := found_at hl hs
    generalize (fndL os s).map (fun j : Nat => D.int ((s : Int) + (j : Int))) = FL at *
    generalize os.map D.int = OL at *
    generalize (sL (sLc (sR2 (sVar 1) (sB lenB (sCons (sVar 0) sNil))) (setV 3) (sBl (sOp oLt (sOp oIx (sVar 0) (sVar 3)) (sLit (.int 128)))) (sVar 3) [3])) = CC at *
    simp [this]
  rintro o rfl
  refine ⟨_, rfl, ?_⟩
  by_cases hL : os.length ≤ endI os s
  · have hd : dueD os s = .lst [.non, .int (os.length : Int)] := by unfold dueD dueO; rw [if_pos hL]
    rw [hd, fnd_none hL]
    generalize os.map D.int = OL at *
    show Ok (sSeq _ _ _) _
    refine ⟨.rt (.N, .lst [.non, .int (os.length : Int)]), ?_, _, rfl, rfl⟩
    exact Ok.eq (by simp [hln, l2, hlim])
  · have hL : endI os s < os.length := by omega
    obtain ⟨R, hR⟩ := fnd_some hL
    obtain ⟨z, z1, z2⟩ := endI_at hL
    have hz := hix _ _ z1
    rw [hR]
    rw [hR] at hfl
    have ea : (s : Int) + ((endI os s - s : Nat) : Int) = ((endI os s : Nat) : Int) := by omega
    rw [List.map_cons, ea]
    have i0 : oIx (.N, .lst (D.int ((endI os s : Nat) : Int) :: R.map fun j : Nat => D.int ((s : Int) + (j : Int)))) (.N, .int 0) = some (.N, .int ((endI os s : Nat) : Int)) := by
      have q : atI (D.int ((endI os s : Nat) : Int) :: R.map fun j : Nat => D.int ((s : Int) + (j : Int))) 0 = some (D.int ((endI os s : Nat) : Int)) := atI_nat (xs := D.int ((endI os s : Nat) : Int) :: R.map fun j : Nat => D.int ((s : Int) + (j : Int))) (j := 0) rfl
      generalize D.int ((endI os s : Nat) : Int) :: R.map (fun j : Nat => D.int ((s : Int) + (j : Int))) = FF at *
      exact Ok.eq (by simp [q])
    have n0 : lenB [(.N, .lst (D.int ((endI os s : Nat) : Int) :: R.map fun j : Nat => D.int ((s : Int) + (j : Int))))] = some (.N, .int ((R.length + 1 : Nat) : Int)) := by simp at hfl ⊢ <;> omega
    generalize D.lst (D.int ((endI os s : Nat) : Int) :: R.map fun j : Nat => D.int ((s : Int) + (j : Int))) = FD at *
    have nz : ¬ (((R.length + 1 : Nat) : Int)) = 0 := by omega
    generalize (((R.length + 1 : Nat) : Int)) = RN at *
    refine sq_step (P := fun o => o = .nx ⟨[.val .B (.lst (os.map D.int)), .val .N (.int (s : Int)), .val .N FD, .un, .un, .un], []⟩) (by generalize os.map D.int = OL at *; simp [n0, nz]) ?_
    rintro o rfl
    refine ⟨_, rfl, ?_⟩
    refine sq_step (P := fun o => o = .nx ⟨[.val .B (.lst (os.map D.int)), .val .N (.int (s : Int)), .val .N FD, .un, .val .N (.int ((endI os s : Nat) : Int)), .un], []⟩) (by generalize os.map D.int = OL at *; simp [i0]) ?_
    rintro o rfl
    refine ⟨_, rfl, ?_⟩
    by_cases hB : badN os s = true
    · have hd : dueD os s = .lst [.non, .int (s : Int)] := by unfold dueD dueO; rw [if_neg (by omega), if_pos hB]
      rw [hd]
      refine ⟨.rt (.N, .lst [.non, .int (s : Int)]), ?_, _, rfl, rfl⟩
      unfold badN at hB
      rw [z1] at hB
      refine Ok.eq ?_
      by_cases h5 : 5 ≤ endI os s - s
      · have c5 : (4 : Int) < ((endI os s : Nat) : Int) - (s : Int) := by omega
        generalize os.map D.int = OL at *
        generalize ((endI os s : Nat) : Int) = E at *
        simp [c5, l2]
      · have c5 : ¬ (4 : Int) < ((endI os s : Nat) : Int) - (s : Int) := by omega
        simp [h5] at hB
        have c6 : (s : Int) < ((endI os s : Nat) : Int) := by omega
        obtain ⟨_, rfl⟩ := hB
        generalize os.map D.int = OL at *
        generalize ((endI os s : Nat) : Int) = E at *
        simp [c5, c6, hz, l2]
    · have hB : badN os s = false := by simpa using hB
      have hd : dueD os s = .lst [.int (numR 0 (pcR os s)), .int (((endI os s : Nat) : Int) + 1)] := by unfold dueD dueO; rw [if_neg (by omega), hB]; rfl
      rw [hd]
      unfold badN at hB
      rw [z1] at hB
      have h5 : ¬ 5 ≤ endI os s - s := by
        intro q
        simp [q] at hB
      refine sq_step (P := fun o => o = .nx ⟨[.val .B (.lst (os.map D.int)), .val .N (.int (s : Int)), .val .N FD, .un, .val .N (.int ((endI os s : Nat) : Int)), .un], []⟩) ?_ ?_
      · have c5 : ¬ (4 : Int) < ((endI os s : Nat) : Int) - (s : Int) := by omega
        simp [h5] at hB
        by_cases c6 : s < endI os s
        · have hz9 := hB c6
          have c7 : (s : Int) < ((endI os s : Nat) : Int) := by omega
          generalize os.map D.int = OL at *
          generalize ((endI os s : Nat) : Int) = E at *
          simp [c5, c7, hz, hz9]
        · have c7 : ¬ (s : Int) < ((endI os s : Nat) : Int) := by omega
          generalize os.map D.int = OL at *
          generalize ((endI os s : Nat) : Int) = E at *
          simp [c5, c7]
      rintro o rfl
      refine ⟨_, rfl, ?_⟩
      refine sq_step (P := fun o => o = .nx ⟨[.val .B (.lst (os.map D.int)), .val .N (.int (s : Int)), .val .N FD, .un, .val .N (.int ((endI os s : Nat) : Int)), .val .N (.int 0)], []⟩) (by generalize os.map D.int = OL at *; simp) ?_
      rintro o rfl
      refine ⟨_, rfl, ?_⟩
      have hpn := pcR_len hL
      have hpl : (pcR os s).length ≤ 5 := by omega
      have hf : (sR1 (sOp oAdd (sOp oSub (sVar 4) (sVar 1)) (sLit (.int 1)))) ⟨[.val .B (.lst (os.map D.int)), .val .N (.int (s : Int)), .val .N FD, .un, .val .N (.int ((endI os s : Nat) : Int)), .val .N (.int 0)], []⟩ = some (iRng (endI os s + 1 - s) 0) := by
        have e1 : (((endI os s : Nat) : Int) - (s : Int) + 1).toNat = endI os s + 1 - s := by omega
        rw [← e1]
        have b1 : ((endI os s : Nat) : Int) - (s : Int) + 1 < 4611686018427387904 := by omega
        have b2 : -4611686018427387904 ≤ ((endI os s : Nat) : Int) - (s : Int) + 1 := by omega
        generalize os.map D.int = OL at *
        generalize ((endI os s : Nat) : Int) = E at *
        exact Ok.eq (by simp [b1, b2])
      refine sq_step (P := fun o => ∃ s3, o = .nx ⟨[.val .B (.lst (os.map D.int)), .val .N (.int (s : Int)), .val .N FD, s3, .val .N (.int ((endI os s : Nat) : Int)), .val .N (.int (numR 0 (pcR os s)))], []⟩) ?_ ?_
      · rw [sFor_at hf]
        refine forL_ok (fun k e => ∃ s3, e = ⟨[.val .B (.lst (os.map D.int)), .val .N (.int (s : Int)), .val .N FD, s3, .val .N (.int ((endI os s : Nat) : Int)), .val .N (.int (numR 0 ((pcR os s).take k)))], []⟩) ⟨.un, rfl⟩ ?_ ?_
        · rintro k r _ hr ⟨s3, rfl⟩
          obtain ⟨hk, rfl⟩ := iRng_get hr
          obtain ⟨y, hy⟩ : ∃ y, (pcR os s)[k]? = some y := ⟨_, List.getElem?_eq_getElem (by omega)⟩
          have hy2 := hy
          rw [pcR_get hL hk] at hy2
          have hyx := hix _ _ hy2
          refine ⟨_, rfl, .nx ⟨[.val .B (.lst (os.map D.int)), .val .N (.int (s : Int)), .val .N FD, .val .N (.int (k : Int)), .val .N (.int ((endI os s : Nat) : Int)), .val .N (.int (128 * numR 0 ((pcR os s).take k) + y % 128))], []⟩, ?_, .val .N (.int (k : Int)), ?_⟩
          · have hb : bitsOk 128 (numR 0 ((pcR os s).take k)) = true := bits_sm (by decide) (by decide) (numR_sm hpl).1 (numR_sm hpl).2
            rw [show ((endI os s - k : Nat) : Int) = ((endI os s : Nat) : Int) - (k : Int) by omega] at hyx
            generalize os.map D.int = OL at *
            generalize numR 0 ((pcR os s).take k) = N at *
            generalize ((endI os s : Nat) : Int) = E at *
            unfold B_law_read_at_1
            exact Ok.eq (by simp [hb, hyx])
          · rw [numR_tk hy, Int.mul_comm 128]
        · rintro _ ⟨s3, rfl⟩
          rw [iRng_len, ← hpn, List.take_of_length_le (Nat.le_refl _)]
          exact ⟨_, rfl⟩
      rintro o ⟨s3, rfl⟩
      refine ⟨_, rfl, ?_⟩
      refine ⟨.rt (.N, .lst [.int (numR 0 (pcR os s)), .int (((endI os s : Nat) : Int) + 1)]), ?_, _, rfl, rfl⟩
      generalize os.map D.int = OL at *
      generalize ((endI os s : Nat) : Int) = E at *
      generalize numR 0 (pcR os s) = N at *
      exact Ok.eq (by simp [l2])
end
end Lw
namespace Lw
open PySem L2 Vf
section
variable {T : Tb} {x : HV} {os : List Int} {s : Nat}
theorem isE_at {a dx C : Addr} {tb : List (Str × Bool)} {b : Bool} {s0 s1 s2 : Sl} {c : Str} {ns : List Str} {ds : List D} (h : tb.lookup c = some b) : sIsE a dx C 3 tb ⟨[s0, s1, s2, .exo a dx C c ns ds], T⟩ = some (.N, .bl b) := by
  have e : exoAt a dx C 3 ⟨[s0, s1, s2, .exo a dx C c ns ds], T⟩ = some (c, ns, ds) := by
    show (if a = a ∧ dx = dx ∧ C = C then some (c, ns, ds) else none) = _
    rw [if_pos ⟨rfl, rfl, rfl⟩]
  unfold sIsE
  rw [e, Option.bind_some, h]
  rfl
theorem exF_at {a dx C : Addr} {cs : List Str} {f : Str} {s0 s1 s2 : Sl} {c : Str} {d : D} (h : c ∈ cs) : sExF a dx C 3 f cs ⟨[s0, s1, s2, .exo a dx C c [f] [d]], T⟩ = some (.N, d) := by
  have e : exoAt a dx C 3 ⟨[s0, s1, s2, .exo a dx C c [f] [d]], T⟩ = some (c, [f], [d]) := by
    show (if a = a ∧ dx = dx ∧ C = C then some (c, [f], [d]) else none) = _
    rw [if_pos ⟨rfl, rfl, rfl⟩]
  unfold sExF
  rw [e, Option.bind_some, if_pos h]
  show (List.lookup f [(f, d)]).map _ = _
  rw [List.lookup_cons_self]
  rfl
abbrev SUx (a dx C : Addr) : SX := (zSeq (zIf (xP (sOrT (sNotT (sTru (sCall g_law_whole (sCons (sExF a dx C 3 "at" XC_at) sNil)))) (sOrT (sNotT (sTru (sIsE a dx C 3 XT_QuietError))) (sNotT (sTru (sIsE a dx C 3 XT_ValueError))))))
  (zRet (xE (sL (sLd sNil))))
  zNx) (zSeq (zIf (xP (sTru (sIsE a dx C 3 XU_BadProgram_BadText_Refused_BadArguments_BadPicture_BadImage_NoRoom_NoObject)))
  (zRet (xE (sL (sLd sNil))))
  zNx) (zRet (xE (sL (sLd (sCons (sLit .non) (sCons (sExF a dx C 3 "at" XC_at) sNil))))))))
theorem outcome_at (h : Oct T x os) (hs : s ≤ os.length) : g_law_outcome [x, .pu (.int (s : Int))] T = some (.val (.pu (dueD os s)) T) := by
  have hx : ∀ l, hVar 0 ⟨slH x :: l, T⟩ = some x := fun l => hV0
  have hr := decode_at h hs
  have l2 : 2 ≤ lim := by decide
  unfold dueD
  unfold g_law_outcome
  refine (gFX_at (by rfl)).trans ?_
  have e0 : env0H N_law_outcome.length [x, .pu (.int (s : Int))] T = ⟨[slH x, .val .N (.int (s : Int)), .un, .un], T⟩ := rfl
  rw [e0]
  unfold F_law_outcome
  generalize (dueO os s).2 = e at *
  cases hq : (dueO os s).1 with
  | some n =>
    rw [hq] at hr
    dsimp only at hr ⊢
    generalize slH x = S at *
    have hb : (zSet 2 (xCall g_decode_number (xCons (xH (hVar 0)) (xCons (xE (sVar 1)) xNil)))) ⟨[S, .val .N (.int (s : Int)), .un, .un], T⟩ = some (.nx ⟨[S, .val .N (.int (s : Int)), .val .N (.tup [.int n, .int e]), .un], T⟩) := Ok.eq (by simp [hx, hr])
    rw [zSeq_eq, zTryAs_eq, hb, Option.bind_some]
    have ht : tryK 3 XK_BadCode (fun a dx C => SUx a dx C) (.nx ⟨[S, .val .N (.int (s : Int)), .val .N (.tup [.int n, .int e]), .un], T⟩) = some (.nx ⟨[S, .val .N (.int (s : Int)), .val .N (.tup [.int n, .int e]), .un], T⟩) := rfl
    rw [ht]
    have w1 := whole_at n
    have w2 := whole_at e
    have a0 : atI [D.int n, D.int e] 0 = some (D.int n) := rfl
    have a1 : atI [D.int n, D.int e] 1 = some (D.int e) := rfl
    have hLl : [D.int n, D.int e].length = 2 := rfl
    generalize hL9 : [D.int n, D.int e] = LL at *
    refine Ok.eq ?_
    simp [l2, w1, w2, a0, a1, hLl]
    exact hL9
  | none =>
    rw [hq] at hr
    dsimp only at hr ⊢
    generalize slH x = S at *
    have hb : (zSet 2 (xCall g_decode_number (xCons (xH (hVar 0)) (xCons (xE (sVar 1)) xNil)))) ⟨[S, .val .N (.int (s : Int)), .un, .un], T⟩ = some (.ex "BadCode" ["at"] [.pu (.int e)] ⟨[S, .val .N (.int (s : Int)), .un, .un], T⟩) := by
      have hck : (xCall g_decode_number (xCons (xH (hVar 0)) (xCons (xE (sVar 1)) xNil))) ⟨[S, .val .N (.int (s : Int)), .un, .un], T⟩ = some (.exc "BadCode" ["at"] [.pu (.int e)] T) := by
        have ha : (xCons (xH (hVar 0)) (xCons (xE (sVar 1)) xNil)) ⟨[S, .val .N (.int (s : Int)), .un, .un], T⟩ = some (.val [x, .pu (.int (s : Int))] T) := Ok.eq (by simp [hx])
        show bX ((xCons (xH (hVar 0)) (xCons (xE (sVar 1)) xNil)) ⟨[S, .val .N (.int (s : Int)), .un, .un], T⟩) _ = _
        rw [ha]
        exact hr
      rw [zSet_eq, hck]
      rfl
    rw [zSeq_eq, zTryAs_eq, hb, Option.bind_some]
    have ht : ∀ a dx C, ((SUx a dx C) ⟨[S, .val .N (.int (s : Int)), .un, .exo a dx C "BadCode" ["at"] [.int e]], T⟩).bind (wipeO 3) = some (.rt (.pu (.lst [.non, .int e])) T) := fun a dx C => by
      have i1 : sIsE a dx C 3 XT_QuietError ⟨[S, .val .N (.int (s : Int)), .un, .exo a dx C "BadCode" ["at"] [.int e]], T⟩ = some (.N, .bl true) := isE_at rfl
      have i2 : sIsE a dx C 3 XT_ValueError ⟨[S, .val .N (.int (s : Int)), .un, .exo a dx C "BadCode" ["at"] [.int e]], T⟩ = some (.N, .bl true) := isE_at rfl
      have i3 : sIsE a dx C 3 XU_BadProgram_BadText_Refused_BadArguments_BadPicture_BadImage_NoRoom_NoObject ⟨[S, .val .N (.int (s : Int)), .un, .exo a dx C "BadCode" ["at"] [.int e]], T⟩ = some (.N, .bl false) := isE_at rfl
      have i4 : sExF a dx C 3 "at" XC_at ⟨[S, .val .N (.int (s : Int)), .un, .exo a dx C "BadCode" ["at"] [.int e]], T⟩ = some (.N, .int e) := exF_at (by decide +kernel)
      have i5 := whole_at e
      unfold SUx
      have q8 : XT_ValueError = XT_QuietError := rfl
      rw [q8]
      generalize sIsE a dx C 3 XT_QuietError = I1 at *
      generalize sIsE a dx C 3 XU_BadProgram_BadText_Refused_BadArguments_BadPicture_BadImage_NoRoom_NoObject = I2 at *
      generalize sExF a dx C 3 "at" XC_at = I3 at *
      generalize Sl.exo a dx C "BadCode" ["at"] [.int e] = EX at *
      refine Ok.eq ?_
      simp [i1, i3, i4, i5, l2, wipeO]
    have hk : tryK 3 XK_BadCode (fun a dx C => SUx a dx C) (.ex "BadCode" ["at"] [.pu (.int e)] ⟨[S, .val .N (.int (s : Int)), .un, .un], T⟩) = some (.rt (.pu (.lst [.non, .int e])) T) := by
      have hpu : pures [HV.pu (.int e)] = some [D.int e] := rfl
      unfold tryK
      dsimp only
      rw [if_pos ⟨by decide +kernel, fun z => nomatch z⟩, hpu, Option.bind_some]
      exact tryPick_at ht
    rw [hk]
    rfl
end
/-! the errors, as values -/
section
variable {T : Tb}
theorem mkBP {t : Str} {n : Int} {m : Int} {u : Str} : exnK "BadProgram" g_BadProgram_init 4 [0, 1, 2, 3] [.pu (D.str t), .pu (D.int n), .pu (D.int m), .pu (D.str u)] T = some (.val (.pu (.exn "BadProgram" ["why", "place", "number", "part"] [(D.str u), (D.int m), (D.int n), (D.str t)])) T) := exnK_at (ds := [(D.str t), (D.int n), (D.int m), (D.str u)]) (out := [(("why" : Str), (D.str u)), (("place" : Str), (D.int m)), (("number" : Str), (D.int n)), (("part" : Str), (D.str t))]) rfl (by decide) rfl rfl rfl
theorem mkBT {n : Int} {t : Str} : exnK "BadText" g_BadText_init 2 [0, 1] [.pu (D.int n), .pu (D.str t)] T = some (.val (.pu (.exn "BadText" ["why", "line"] [(D.str t), (D.int n)])) T) := exnK_at (ds := [(D.int n), (D.str t)]) (out := [(("why" : Str), (D.str t)), (("line" : Str), (D.int n))]) rfl (by decide) rfl rfl rfl
theorem mkBC {n : Int} : exnK "BadCode" g_BadCode_init 1 [0] [.pu (D.int n)] T = some (.val (.pu (.exn "BadCode" ["at"] [(D.int n)])) T) := exnK_at (ds := [(D.int n)]) (out := [(("at" : Str), (D.int n))]) rfl (by decide) rfl rfl rfl
theorem mkBI {n : Int} {t : Str} : exnK "BadImage" g_BadImage_init 2 [0, 1] [.pu (D.int n), .pu (D.str t)] T = some (.val (.pu (.exn "BadImage" ["why", "line"] [(D.str t), (D.int n)])) T) := exnK_at (ds := [(D.int n), (D.str t)]) (out := [(("why" : Str), (D.str t)), (("line" : Str), (D.int n))]) rfl (by decide) rfl rfl rfl
theorem mkPi {t : Str} {n : Int} {u : Str} : exnK "BadPicture" g_BadPicture_init 3 [0, 1, 2] [.pu (D.str t), .pu (D.int n), .pu (D.str u)] T = some (.val (.pu (.exn "BadPicture" ["why", "number", "part"] [(D.str u), (D.int n), (D.str t)])) T) := exnK_at (ds := [(D.str t), (D.int n), (D.str u)]) (out := [(("why" : Str), (D.str u)), (("number" : Str), (D.int n)), (("part" : Str), (D.str t))]) rfl (by decide) rfl rfl rfl
theorem mkNR {n : Int} : exnK "NoRoom" g_NoRoom_init 1 [0] [.pu (D.int n)] T = some (.val (.pu (.exn "NoRoom" ["words"] [(D.int n)])) T) := exnK_at (ds := [(D.int n)]) (out := [(("words" : Str), (D.int n))]) rfl (by decide) rfl rfl rfl
theorem mkNO {n : Int} : exnK "NoObject" g_NoObject_init 1 [0] [.pu (D.int n)] T = some (.val (.pu (.exn "NoObject" ["number"] [(D.int n)])) T) := exnK_at (ds := [(D.int n)]) (out := [(("number" : Str), (D.int n))]) rfl (by decide) rfl rfl rfl
end
theorem frozen_N : ∀ (n : Nat) (t : Tg) (d : D), okT t = true → okF n d = true → gN_frozen n [(t, d)] = some (.N, frzD d)
  | 0, t, d, ht, h => by simp [okF] at h
  | n + 1, t, d, ht, h => by
    have ih := frozen_N n
    have hseq : ∀ xs : List D, okFs n xs = true → xs.length ≤ lim → ∀ t', okT t' = true → lcL sYes (sCall (gN_frozen n) (sCons (sVar 1) sNil)) (setV 1) ⟨[.val t' d, .un], []⟩ (xs.map fun x => nm (t', x)) = some (xs.map fun x => (Tg.N, frzD x)) := by
      intro xs hx hl t' ht'
      have key : ∀ rs : List D, (∀ x ∈ rs, okF n x = true) → lcL sYes (sCall (gN_frozen n) (sCons (sVar 1) sNil)) (setV 1) ⟨[.val t' d, .un], []⟩ (rs.map fun x => nm (t', x)) = some (rs.map fun x => (Tg.N, frzD x)) := by
        intro rs
        induction rs with
        | nil => intro _; rfl
        | cons r rs ihr =>
          intro hr
          have h1 := ihr fun x hx => hr x (List.mem_cons_of_mem _ hx)
          have h2 := hr r List.mem_cons_self
          rw [List.map_cons]
          unfold lcL
          rw [h1]
          cases t' with
          | N => simp [ih .N r rfl h2, okT]
          | B =>
            cases r <;> first | (cases n <;> simp [okF] at h2; done) | simp [ih .N _ rfl h2, ih .B _ rfl h2, okT]
          | T => exact Bool.noConfusion ht'
          | O => exact Bool.noConfusion ht'
      exact key xs (okFs_mem hx)
    unfold gN_frozen
    refine (gF_at (by rfl) (by simp [ht])).trans (Ok.eq ?_)
    have hn : ∀ xs : List D, okFs n xs = true → xs.length ≤ lim → d = .lst xs ∨ d = .scr xs ∨ d = .tup xs → Ok (F_frozen (gN_frozen n) (env0 N_frozen.length [(t, d)])) fun o => Ok (fin o) fun r => r = (Tg.N, .tup (xs.map frzD)) := by
      intro xs hx hl hd
      have hs := hseq xs hx hl t ht
      rcases hd with rfl | rfl | rfl <;> cases t <;> first | exact Bool.noConfusion ht | (try simp at hs) <;> simp [F_frozen, sIsi2, isi2D, hs, hl]
    cases d with
    | lst xs =>
      simp only [okF, Bool.and_eq_true, decide_eq_true_eq] at h
      rw [Ok_bind]
      refine (hn xs h.1 h.2 (.inl rfl)).mono fun o ho => ho.mono fun r hr => ?_
      rw [hr, frzD, frzDs_map]
    | scr xs =>
      simp only [okF, Bool.and_eq_true, decide_eq_true_eq] at h
      rw [Ok_bind]
      refine (hn xs h.1 h.2 (.inr (.inl rfl))).mono fun o ho => ho.mono fun r hr => ?_
      rw [hr, frzD, frzDs_map]
    | tup xs =>
      simp only [okF, Bool.and_eq_true, decide_eq_true_eq] at h
      rw [Ok_bind]
      refine (hn xs h.1 h.2 (.inr (.inr rfl))).mono fun o ho => ho.mono fun r hr => ?_
      rw [hr, frzD, frzDs_map]
    | ins _ _ _ => simp [okF] at h
    | dic _ _ => simp [okF] at h
    | exn _ _ _ => simp [okF] at h
    | non => simp [F_frozen, sIsi2, isi2D, frzD]
    | bl b => simp [F_frozen, sIsi2, isi2D, frzD]
    | int i => simp [F_frozen, sIsi2, isi2D, frzD]
    | str z => simp [F_frozen, sIsi2, isi2D, frzD]
theorem rf_ini (n : Int) (t : Str) : g_Refused_init [.int n, .str t, .tup [.int 0, .int n], .tup [.int n]] = some [(("other" : Str), D.tup [.int n]), (("walk" : Str), D.tup [.int 0, .int n]), (("why" : Str), D.str t), (("number" : Str), D.int n)] := by
  have f1 : g_frozen [(.N, .tup [.int 0, .int n])] = some (.N, .tup [.int 0, .int n]) := frozen_N 9 .N _ rfl (by simp [okF, okFs]; decide)
  have f2 : g_frozen [(.N, .tup [.int n])] = some (.N, .tup [.int n]) := frozen_N 9 .N _ rfl (by simp [okF, okFs]; decide)
  unfold g_Refused_init gIni
  refine (if_pos rfl).trans ?_
  unfold F_Refused_init
  generalize [D.int 0, D.int n] = L1 at *
  generalize [D.int n] = L2 at *
  simp [evI, f1, f2]
theorem mkRf {n : Int} {t : Str} {T : Tb} : exnK "Refused" g_Refused_init 4 [0, 1, 2, 3] [.pu (.int n), .pu (.str t), .pu (.tup [.int 0, .int n]), .pu (.tup [.int n])] T = some (.val (.pu (.exn "Refused" ["other", "walk", "why", "number"] [.tup [.int n], .tup [.int 0, .int n], .str t, .int n])) T) :=
  exnK_at (n := 4) (ds := [.int n, .str t, .tup [.int 0, .int n], .tup [.int n]]) rfl (by decide) rfl (rf_ini n t) rfl
theorem exnF_at {f : Str} {cs ns : List Str} {c : Str} {ds : List D} {d : D} (h : c ∈ cs) (h2 : (ns.zip ds).lookup f = some d) : exnF f cs (.N, .exn c ns ds) = some (nm (.N, d)) := by
  rw [exnF_eq, if_pos h, h2]
  rfl
/-! which class -/
theorem lc9_at (e : D) (k : Int) : (sL (sLc (sR1 (sLit (.int 9))) (setV 2) sYes (sOp oEq (sVar 2) (sVar 1)) [2])) ⟨[.val .N e, .val .N (.int k), .un], []⟩ = some (.N, .lst ((List.range 9).map fun j : Nat => D.bl (decide ((0 : Int) + (j : Int) = k)))) := by
  have hi : (sR1 (sLit (.int 9))) ⟨[.val .N e, .val .N (.int k), .un], []⟩ = some ((List.range 9).map fun j : Nat => (Tg.N, D.int ((0 : Int) + (j : Int)))) := by
    show r1K (.N, .int 9) = _
    exact cif_pos ⟨by decide, by decide⟩
  have hc := lcL_mapN (fe := sOp oEq (sVar 2) (sVar 1)) (s := setV 2) (env := wipeE ⟨[.val .N e, .val .N (.int k), .un], []⟩ [2]) (g := fun j : Nat => D.int ((0 : Int) + (j : Int))) (h := fun j : Nat => D.bl (decide ((0 : Int) + (j : Int) = k))) (xs := List.range 9) fun j hj => by
    refine ⟨⟨[.val .N e, .val .N (.int k), .val .N (.int ((0 : Int) + (j : Int)))], []⟩, rfl, ?_⟩
    generalize (0 : Int) + (j : Int) = J at *
    simp
  unfold sL sLc
  rw [hi, Option.bind_some, if_pos (by rw [List.length_map, List.length_range]; unfold lim; omega), hc]
  rw [Option.map_some, tagL_Nm, List.map_map]
  rfl
theorem cls_BadProgram {ns : List Str} {ds : List D} : g_law_classes [(.N, .exn "BadProgram" ns ds)] = some (.N, .lst [.bl true, .bl false, .bl false, .bl false, .bl false, .bl false, .bl false, .bl false, .bl false]) := by
  have e0 : exnI XT_BadProgram (.N, .exn "BadProgram" ns ds) = some (.N, .bl true) := rfl
  have e1 : exnI XT_BadText (.N, .exn "BadProgram" ns ds) = some (.N, .bl false) := rfl
  have e2 : exnI XT_BadCode (.N, .exn "BadProgram" ns ds) = some (.N, .bl false) := rfl
  have e3 : exnI XT_Refused (.N, .exn "BadProgram" ns ds) = some (.N, .bl false) := rfl
  have e4 : exnI XT_BadArguments (.N, .exn "BadProgram" ns ds) = some (.N, .bl false) := rfl
  have e5 : exnI XT_BadPicture (.N, .exn "BadProgram" ns ds) = some (.N, .bl false) := rfl
  have e6 : exnI XT_BadImage (.N, .exn "BadProgram" ns ds) = some (.N, .bl false) := rfl
  have e7 : exnI XT_NoRoom (.N, .exn "BadProgram" ns ds) = some (.N, .bl false) := rfl
  have e8 : exnI XT_NoObject (.N, .exn "BadProgram" ns ds) = some (.N, .bl false) := rfl
  unfold g_law_classes
  refine (gF_at (by rfl) (by rfl)).trans (Ok.eq ?_)
  unfold F_law_classes
  have l4 : 4 ≤ lim := by decide
  have l7 : 7 ≤ lim := by decide
  have l9 : 9 ≤ lim := by decide
  have l3 : 3 ≤ lim := by decide
  have l2 : 2 ≤ lim := by decide
  generalize XT_BadProgram = X0 at *
  generalize XT_BadText = X1 at *
  generalize XT_BadCode = X2 at *
  generalize XT_Refused = X3 at *
  generalize XT_BadArguments = X4 at *
  generalize XT_BadPicture = X5 at *
  generalize XT_BadImage = X6 at *
  generalize XT_NoRoom = X7 at *
  generalize XT_NoObject = X8 at *
  generalize D.exn "BadProgram" ns ds = EX at *
  simp [-exnI_eq, e0, e1, e2, e3, e4, e5, e6, e7, e8, l4, l3, l2, l7, l9]
theorem ap_BadProgram {ns : List Str} {ds : List D} : g_law_apart [(.N, .exn "BadProgram" ns ds), (.N, .int 0)] = some (.N, .bl true) := by
  have e1 : exnI XT_QuietError (.N, .exn "BadProgram" ns ds) = some (.N, .bl true) := rfl
  have e2 : XT_ValueError = XT_QuietError := rfl
  have hc := cls_BadProgram (ns := ns) (ds := ds)
  have hl := lc9_at (.exn "BadProgram" ns ds) 0
  have hq : oEq (.N, .lst [.bl true, .bl false, .bl false, .bl false, .bl false, .bl false, .bl false, .bl false, .bl false]) (.N, .lst ((List.range 9).map fun j : Nat => D.bl (decide ((0 : Int) + (j : Int) = 0)))) = some (.N, .bl true) := rfl
  unfold g_law_apart
  refine (gF_at (by rfl) (by rfl)).trans (Ok.eq ?_)
  unfold F_law_apart
  rw [e2]
  generalize XT_QuietError = XQ at *
  generalize (sL (sLc (sR1 (sLit (.int 9))) (setV 2) sYes (sOp oEq (sVar 2) (sVar 1)) [2])) = CC at *
  generalize D.lst ((List.range 9).map fun j : Nat => D.bl (decide ((0 : Int) + (j : Int) = 0))) = LR at *
  generalize D.lst [.bl true, .bl false, .bl false, .bl false, .bl false, .bl false, .bl false, .bl false, .bl false] = LQ at *
  generalize D.exn "BadProgram" ns ds = EX at *
  simp [-exnI_eq, -oEq_d, e1, hc, hl, hq]
theorem cls_BadText {ns : List Str} {ds : List D} : g_law_classes [(.N, .exn "BadText" ns ds)] = some (.N, .lst [.bl false, .bl true, .bl false, .bl false, .bl false, .bl false, .bl false, .bl false, .bl false]) := by
  have e0 : exnI XT_BadProgram (.N, .exn "BadText" ns ds) = some (.N, .bl false) := rfl
  have e1 : exnI XT_BadText (.N, .exn "BadText" ns ds) = some (.N, .bl true) := rfl
  have e2 : exnI XT_BadCode (.N, .exn "BadText" ns ds) = some (.N, .bl false) := rfl
  have e3 : exnI XT_Refused (.N, .exn "BadText" ns ds) = some (.N, .bl false) := rfl
  have e4 : exnI XT_BadArguments (.N, .exn "BadText" ns ds) = some (.N, .bl false) := rfl
  have e5 : exnI XT_BadPicture (.N, .exn "BadText" ns ds) = some (.N, .bl false) := rfl
  have e6 : exnI XT_BadImage (.N, .exn "BadText" ns ds) = some (.N, .bl false) := rfl
  have e7 : exnI XT_NoRoom (.N, .exn "BadText" ns ds) = some (.N, .bl false) := rfl
  have e8 : exnI XT_NoObject (.N, .exn "BadText" ns ds) = some (.N, .bl false) := rfl
  unfold g_law_classes
  refine (gF_at (by rfl) (by rfl)).trans (Ok.eq ?_)
  unfold F_law_classes
  have l4 : 4 ≤ lim := by decide
  have l7 : 7 ≤ lim := by decide
  have l9 : 9 ≤ lim := by decide
  have l3 : 3 ≤ lim := by decide
  have l2 : 2 ≤ lim := by decide
  generalize XT_BadProgram = X0 at *
  generalize XT_BadText = X1 at *
  generalize XT_BadCode = X2 at *
  generalize XT_Refused = X3 at *
  generalize XT_BadArguments = X4 at *
  generalize XT_BadPicture = X5 at *
  generalize XT_BadImage = X6 at *
  generalize XT_NoRoom = X7 at *
  generalize XT_NoObject = X8 at *
  generalize D.exn "BadText" ns ds = EX at *
  simp [-exnI_eq, e0, e1, e2, e3, e4, e5, e6, e7, e8, l4, l3, l2, l7, l9]
theorem ap_BadText {ns : List Str} {ds : List D} : g_law_apart [(.N, .exn "BadText" ns ds), (.N, .int 1)] = some (.N, .bl true) := by
  have e1 : exnI XT_QuietError (.N, .exn "BadText" ns ds) = some (.N, .bl true) := rfl
  have e2 : XT_ValueError = XT_QuietError := rfl
  have hc := cls_BadText (ns := ns) (ds := ds)
  have hl := lc9_at (.exn "BadText" ns ds) 1
  have hq : oEq (.N, .lst [.bl false, .bl true, .bl false, .bl false, .bl false, .bl false, .bl false, .bl false, .bl false]) (.N, .lst ((List.range 9).map fun j : Nat => D.bl (decide ((0 : Int) + (j : Int) = 1)))) = some (.N, .bl true) := rfl
  unfold g_law_apart
  refine (gF_at (by rfl) (by rfl)).trans (Ok.eq ?_)
  unfold F_law_apart
  rw [e2]
  generalize XT_QuietError = XQ at *
  generalize (sL (sLc (sR1 (sLit (.int 9))) (setV 2) sYes (sOp oEq (sVar 2) (sVar 1)) [2])) = CC at *
  generalize D.lst ((List.range 9).map fun j : Nat => D.bl (decide ((0 : Int) + (j : Int) = 1))) = LR at *
  generalize D.lst [.bl false, .bl true, .bl false, .bl false, .bl false, .bl false, .bl false, .bl false, .bl false] = LQ at *
  generalize D.exn "BadText" ns ds = EX at *
  simp [-exnI_eq, -oEq_d, e1, hc, hl, hq]
theorem cls_BadCode {ns : List Str} {ds : List D} : g_law_classes [(.N, .exn "BadCode" ns ds)] = some (.N, .lst [.bl false, .bl false, .bl true, .bl false, .bl false, .bl false, .bl false, .bl false, .bl false]) := by
  have e0 : exnI XT_BadProgram (.N, .exn "BadCode" ns ds) = some (.N, .bl false) := rfl
  have e1 : exnI XT_BadText (.N, .exn "BadCode" ns ds) = some (.N, .bl false) := rfl
  have e2 : exnI XT_BadCode (.N, .exn "BadCode" ns ds) = some (.N, .bl true) := rfl
  have e3 : exnI XT_Refused (.N, .exn "BadCode" ns ds) = some (.N, .bl false) := rfl
  have e4 : exnI XT_BadArguments (.N, .exn "BadCode" ns ds) = some (.N, .bl false) := rfl
  have e5 : exnI XT_BadPicture (.N, .exn "BadCode" ns ds) = some (.N, .bl false) := rfl
  have e6 : exnI XT_BadImage (.N, .exn "BadCode" ns ds) = some (.N, .bl false) := rfl
  have e7 : exnI XT_NoRoom (.N, .exn "BadCode" ns ds) = some (.N, .bl false) := rfl
  have e8 : exnI XT_NoObject (.N, .exn "BadCode" ns ds) = some (.N, .bl false) := rfl
  unfold g_law_classes
  refine (gF_at (by rfl) (by rfl)).trans (Ok.eq ?_)
  unfold F_law_classes
  have l4 : 4 ≤ lim := by decide
  have l7 : 7 ≤ lim := by decide
  have l9 : 9 ≤ lim := by decide
  have l3 : 3 ≤ lim := by decide
  have l2 : 2 ≤ lim := by decide
  generalize XT_BadProgram = X0 at *
  generalize XT_BadText = X1 at *
  generalize XT_BadCode = X2 at *
  generalize XT_Refused = X3 at *
  generalize XT_BadArguments = X4 at *
  generalize XT_BadPicture = X5 at *
  generalize XT_BadImage = X6 at *
  generalize XT_NoRoom = X7 at *
  generalize XT_NoObject = X8 at *
  generalize D.exn "BadCode" ns ds = EX at *
  simp [-exnI_eq, e0, e1, e2, e3, e4, e5, e6, e7, e8, l4, l3, l2, l7, l9]
theorem ap_BadCode {ns : List Str} {ds : List D} : g_law_apart [(.N, .exn "BadCode" ns ds), (.N, .int 2)] = some (.N, .bl true) := by
  have e1 : exnI XT_QuietError (.N, .exn "BadCode" ns ds) = some (.N, .bl true) := rfl
  have e2 : XT_ValueError = XT_QuietError := rfl
  have hc := cls_BadCode (ns := ns) (ds := ds)
  have hl := lc9_at (.exn "BadCode" ns ds) 2
  have hq : oEq (.N, .lst [.bl false, .bl false, .bl true, .bl false, .bl false, .bl false, .bl false, .bl false, .bl false]) (.N, .lst ((List.range 9).map fun j : Nat => D.bl (decide ((0 : Int) + (j : Int) = 2)))) = some (.N, .bl true) := rfl
  unfold g_law_apart
  refine (gF_at (by rfl) (by rfl)).trans (Ok.eq ?_)
  unfold F_law_apart
  rw [e2]
  generalize XT_QuietError = XQ at *
  generalize (sL (sLc (sR1 (sLit (.int 9))) (setV 2) sYes (sOp oEq (sVar 2) (sVar 1)) [2])) = CC at *
  generalize D.lst ((List.range 9).map fun j : Nat => D.bl (decide ((0 : Int) + (j : Int) = 2))) = LR at *
  generalize D.lst [.bl false, .bl false, .bl true, .bl false, .bl false, .bl false, .bl false, .bl false, .bl false] = LQ at *
  generalize D.exn "BadCode" ns ds = EX at *
  simp [-exnI_eq, -oEq_d, e1, hc, hl, hq]
theorem cls_Refused {ns : List Str} {ds : List D} : g_law_classes [(.N, .exn "Refused" ns ds)] = some (.N, .lst [.bl false, .bl false, .bl false, .bl true, .bl false, .bl false, .bl false, .bl false, .bl false]) := by
  have e0 : exnI XT_BadProgram (.N, .exn "Refused" ns ds) = some (.N, .bl false) := rfl
  have e1 : exnI XT_BadText (.N, .exn "Refused" ns ds) = some (.N, .bl false) := rfl
  have e2 : exnI XT_BadCode (.N, .exn "Refused" ns ds) = some (.N, .bl false) := rfl
  have e3 : exnI XT_Refused (.N, .exn "Refused" ns ds) = some (.N, .bl true) := rfl
  have e4 : exnI XT_BadArguments (.N, .exn "Refused" ns ds) = some (.N, .bl false) := rfl
  have e5 : exnI XT_BadPicture (.N, .exn "Refused" ns ds) = some (.N, .bl false) := rfl
  have e6 : exnI XT_BadImage (.N, .exn "Refused" ns ds) = some (.N, .bl false) := rfl
  have e7 : exnI XT_NoRoom (.N, .exn "Refused" ns ds) = some (.N, .bl false) := rfl
  have e8 : exnI XT_NoObject (.N, .exn "Refused" ns ds) = some (.N, .bl false) := rfl
  unfold g_law_classes
  refine (gF_at (by rfl) (by rfl)).trans (Ok.eq ?_)
  unfold F_law_classes
  have l4 : 4 ≤ lim := by decide
  have l7 : 7 ≤ lim := by decide
  have l9 : 9 ≤ lim := by decide
  have l3 : 3 ≤ lim := by decide
  have l2 : 2 ≤ lim := by decide
  generalize XT_BadProgram = X0 at *
  generalize XT_BadText = X1 at *
  generalize XT_BadCode = X2 at *
  generalize XT_Refused = X3 at *
  generalize XT_BadArguments = X4 at *
  generalize XT_BadPicture = X5 at *
  generalize XT_BadImage = X6 at *
  generalize XT_NoRoom = X7 at *
  generalize XT_NoObject = X8 at *
  generalize D.exn "Refused" ns ds = EX at *
  simp [-exnI_eq, e0, e1, e2, e3, e4, e5, e6, e7, e8, l4, l3, l2, l7, l9]
theorem ap_Refused {ns : List Str} {ds : List D} : g_law_apart [(.N, .exn "Refused" ns ds), (.N, .int 3)] = some (.N, .bl true) := by
  have e1 : exnI XT_QuietError (.N, .exn "Refused" ns ds) = some (.N, .bl true) := rfl
  have e2 : XT_ValueError = XT_QuietError := rfl
  have hc := cls_Refused (ns := ns) (ds := ds)
  have hl := lc9_at (.exn "Refused" ns ds) 3
  have hq : oEq (.N, .lst [.bl false, .bl false, .bl false, .bl true, .bl false, .bl false, .bl false, .bl false, .bl false]) (.N, .lst ((List.range 9).map fun j : Nat => D.bl (decide ((0 : Int) + (j : Int) = 3)))) = some (.N, .bl true) := rfl
  unfold g_law_apart
  refine (gF_at (by rfl) (by rfl)).trans (Ok.eq ?_)
  unfold F_law_apart
  rw [e2]
  generalize XT_QuietError = XQ at *
  generalize (sL (sLc (sR1 (sLit (.int 9))) (setV 2) sYes (sOp oEq (sVar 2) (sVar 1)) [2])) = CC at *
  generalize D.lst ((List.range 9).map fun j : Nat => D.bl (decide ((0 : Int) + (j : Int) = 3))) = LR at *
  generalize D.lst [.bl false, .bl false, .bl false, .bl true, .bl false, .bl false, .bl false, .bl false, .bl false] = LQ at *
  generalize D.exn "Refused" ns ds = EX at *
  simp [-exnI_eq, -oEq_d, e1, hc, hl, hq]
theorem cls_BadArguments {ns : List Str} {ds : List D} : g_law_classes [(.N, .exn "BadArguments" ns ds)] = some (.N, .lst [.bl false, .bl false, .bl false, .bl false, .bl true, .bl false, .bl false, .bl false, .bl false]) := by
  have e0 : exnI XT_BadProgram (.N, .exn "BadArguments" ns ds) = some (.N, .bl false) := rfl
  have e1 : exnI XT_BadText (.N, .exn "BadArguments" ns ds) = some (.N, .bl false) := rfl
  have e2 : exnI XT_BadCode (.N, .exn "BadArguments" ns ds) = some (.N, .bl false) := rfl
  have e3 : exnI XT_Refused (.N, .exn "BadArguments" ns ds) = some (.N, .bl false) := rfl
  have e4 : exnI XT_BadArguments (.N, .exn "BadArguments" ns ds) = some (.N, .bl true) := rfl
  have e5 : exnI XT_BadPicture (.N, .exn "BadArguments" ns ds) = some (.N, .bl false) := rfl
  have e6 : exnI XT_BadImage (.N, .exn "BadArguments" ns ds) = some (.N, .bl false) := rfl
  have e7 : exnI XT_NoRoom (.N, .exn "BadArguments" ns ds) = some (.N, .bl false) := rfl
  have e8 : exnI XT_NoObject (.N, .exn "BadArguments" ns ds) = some (.N, .bl false) := rfl
  unfold g_law_classes
  refine (gF_at (by rfl) (by rfl)).trans (Ok.eq ?_)
  unfold F_law_classes
  have l4 : 4 ≤ lim := by decide
  have l7 : 7 ≤ lim := by decide
  have l9 : 9 ≤ lim := by decide
  have l3 : 3 ≤ lim := by decide
  have l2 : 2 ≤ lim := by decide
  generalize XT_BadProgram = X0 at *
  generalize XT_BadText = X1 at *
  generalize XT_BadCode = X2 at *
  generalize XT_Refused = X3 at *
  generalize XT_BadArguments = X4 at *
  generalize XT_BadPicture = X5 at *
  generalize XT_BadImage = X6 at *
  generalize XT_NoRoom = X7 at *
  generalize XT_NoObject = X8 at *
  generalize D.exn "BadArguments" ns ds = EX at *
  simp [-exnI_eq, e0, e1, e2, e3, e4, e5, e6, e7, e8, l4, l3, l2, l7, l9]
theorem ap_BadArguments {ns : List Str} {ds : List D} : g_law_apart [(.N, .exn "BadArguments" ns ds), (.N, .int 4)] = some (.N, .bl true) := by
  have e1 : exnI XT_QuietError (.N, .exn "BadArguments" ns ds) = some (.N, .bl true) := rfl
  have e2 : XT_ValueError = XT_QuietError := rfl
  have hc := cls_BadArguments (ns := ns) (ds := ds)
  have hl := lc9_at (.exn "BadArguments" ns ds) 4
  have hq : oEq (.N, .lst [.bl false, .bl false, .bl false, .bl false, .bl true, .bl false, .bl false, .bl false, .bl false]) (.N, .lst ((List.range 9).map fun j : Nat => D.bl (decide ((0 : Int) + (j : Int) = 4)))) = some (.N, .bl true) := rfl
  unfold g_law_apart
  refine (gF_at (by rfl) (by rfl)).trans (Ok.eq ?_)
  unfold F_law_apart
  rw [e2]
  generalize XT_QuietError = XQ at *
  generalize (sL (sLc (sR1 (sLit (.int 9))) (setV 2) sYes (sOp oEq (sVar 2) (sVar 1)) [2])) = CC at *
  generalize D.lst ((List.range 9).map fun j : Nat => D.bl (decide ((0 : Int) + (j : Int) = 4))) = LR at *
  generalize D.lst [.bl false, .bl false, .bl false, .bl false, .bl true, .bl false, .bl false, .bl false, .bl false] = LQ at *
  generalize D.exn "BadArguments" ns ds = EX at *
  simp [-exnI_eq, -oEq_d, e1, hc, hl, hq]
theorem cls_BadPicture {ns : List Str} {ds : List D} : g_law_classes [(.N, .exn "BadPicture" ns ds)] = some (.N, .lst [.bl false, .bl false, .bl false, .bl false, .bl false, .bl true, .bl false, .bl false, .bl false]) := by
  have e0 : exnI XT_BadProgram (.N, .exn "BadPicture" ns ds) = some (.N, .bl false) := rfl
  have e1 : exnI XT_BadText (.N, .exn "BadPicture" ns ds) = some (.N, .bl false) := rfl
  have e2 : exnI XT_BadCode (.N, .exn "BadPicture" ns ds) = some (.N, .bl false) := rfl
  have e3 : exnI XT_Refused (.N, .exn "BadPicture" ns ds) = some (.N, .bl false) := rfl
  have e4 : exnI XT_BadArguments (.N, .exn "BadPicture" ns ds) = some (.N, .bl false) := rfl
  have e5 : exnI XT_BadPicture (.N, .exn "BadPicture" ns ds) = some (.N, .bl true) := rfl
  have e6 : exnI XT_BadImage (.N, .exn "BadPicture" ns ds) = some (.N, .bl false) := rfl
  have e7 : exnI XT_NoRoom (.N, .exn "BadPicture" ns ds) = some (.N, .bl false) := rfl
  have e8 : exnI XT_NoObject (.N, .exn "BadPicture" ns ds) = some (.N, .bl false) := rfl
  unfold g_law_classes
  refine (gF_at (by rfl) (by rfl)).trans (Ok.eq ?_)
  unfold F_law_classes
  have l4 : 4 ≤ lim := by decide
  have l7 : 7 ≤ lim := by decide
  have l9 : 9 ≤ lim := by decide
  have l3 : 3 ≤ lim := by decide
  have l2 : 2 ≤ lim := by decide
  generalize XT_BadProgram = X0 at *
  generalize XT_BadText = X1 at *
  generalize XT_BadCode = X2 at *
  generalize XT_Refused = X3 at *
  generalize XT_BadArguments = X4 at *
  generalize XT_BadPicture = X5 at *
  generalize XT_BadImage = X6 at *
  generalize XT_NoRoom = X7 at *
  generalize XT_NoObject = X8 at *
  generalize D.exn "BadPicture" ns ds = EX at *
  simp [-exnI_eq, e0, e1, e2, e3, e4, e5, e6, e7, e8, l4, l3, l2, l7, l9]
theorem ap_BadPicture {ns : List Str} {ds : List D} : g_law_apart [(.N, .exn "BadPicture" ns ds), (.N, .int 5)] = some (.N, .bl true) := by
  have e1 : exnI XT_QuietError (.N, .exn "BadPicture" ns ds) = some (.N, .bl true) := rfl
  have e2 : XT_ValueError = XT_QuietError := rfl
  have hc := cls_BadPicture (ns := ns) (ds := ds)
  have hl := lc9_at (.exn "BadPicture" ns ds) 5
  have hq : oEq (.N, .lst [.bl false, .bl false, .bl false, .bl false, .bl false, .bl true, .bl false, .bl false, .bl false]) (.N, .lst ((List.range 9).map fun j : Nat => D.bl (decide ((0 : Int) + (j : Int) = 5)))) = some (.N, .bl true) := rfl
  unfold g_law_apart
  refine (gF_at (by rfl) (by rfl)).trans (Ok.eq ?_)
  unfold F_law_apart
  rw [e2]
  generalize XT_QuietError = XQ at *
  generalize (sL (sLc (sR1 (sLit (.int 9))) (setV 2) sYes (sOp oEq (sVar 2) (sVar 1)) [2])) = CC at *
  generalize D.lst ((List.range 9).map fun j : Nat => D.bl (decide ((0 : Int) + (j : Int) = 5))) = LR at *
  generalize D.lst [.bl false, .bl false, .bl false, .bl false, .bl false, .bl true, .bl false, .bl false, .bl false] = LQ at *
  generalize D.exn "BadPicture" ns ds = EX at *
  simp [-exnI_eq, -oEq_d, e1, hc, hl, hq]
theorem cls_BadImage {ns : List Str} {ds : List D} : g_law_classes [(.N, .exn "BadImage" ns ds)] = some (.N, .lst [.bl false, .bl false, .bl false, .bl false, .bl false, .bl false, .bl true, .bl false, .bl false]) := by
  have e0 : exnI XT_BadProgram (.N, .exn "BadImage" ns ds) = some (.N, .bl false) := rfl
  have e1 : exnI XT_BadText (.N, .exn "BadImage" ns ds) = some (.N, .bl false) := rfl
  have e2 : exnI XT_BadCode (.N, .exn "BadImage" ns ds) = some (.N, .bl false) := rfl
  have e3 : exnI XT_Refused (.N, .exn "BadImage" ns ds) = some (.N, .bl false) := rfl
  have e4 : exnI XT_BadArguments (.N, .exn "BadImage" ns ds) = some (.N, .bl false) := rfl
  have e5 : exnI XT_BadPicture (.N, .exn "BadImage" ns ds) = some (.N, .bl false) := rfl
  have e6 : exnI XT_BadImage (.N, .exn "BadImage" ns ds) = some (.N, .bl true) := rfl
  have e7 : exnI XT_NoRoom (.N, .exn "BadImage" ns ds) = some (.N, .bl false) := rfl
  have e8 : exnI XT_NoObject (.N, .exn "BadImage" ns ds) = some (.N, .bl false) := rfl
  unfold g_law_classes
  refine (gF_at (by rfl) (by rfl)).trans (Ok.eq ?_)
  unfold F_law_classes
  have l4 : 4 ≤ lim := by decide
  have l7 : 7 ≤ lim := by decide
  have l9 : 9 ≤ lim := by decide
  have l3 : 3 ≤ lim := by decide
  have l2 : 2 ≤ lim := by decide
  generalize XT_BadProgram = X0 at *
  generalize XT_BadText = X1 at *
  generalize XT_BadCode = X2 at *
  generalize XT_Refused = X3 at *
  generalize XT_BadArguments = X4 at *
  generalize XT_BadPicture = X5 at *
  generalize XT_BadImage = X6 at *
  generalize XT_NoRoom = X7 at *
  generalize XT_NoObject = X8 at *
  generalize D.exn "BadImage" ns ds = EX at *
  simp [-exnI_eq, e0, e1, e2, e3, e4, e5, e6, e7, e8, l4, l3, l2, l7, l9]
theorem ap_BadImage {ns : List Str} {ds : List D} : g_law_apart [(.N, .exn "BadImage" ns ds), (.N, .int 6)] = some (.N, .bl true) := by
  have e1 : exnI XT_QuietError (.N, .exn "BadImage" ns ds) = some (.N, .bl true) := rfl
  have e2 : XT_ValueError = XT_QuietError := rfl
  have hc := cls_BadImage (ns := ns) (ds := ds)
  have hl := lc9_at (.exn "BadImage" ns ds) 6
  have hq : oEq (.N, .lst [.bl false, .bl false, .bl false, .bl false, .bl false, .bl false, .bl true, .bl false, .bl false]) (.N, .lst ((List.range 9).map fun j : Nat => D.bl (decide ((0 : Int) + (j : Int) = 6)))) = some (.N, .bl true) := rfl
  unfold g_law_apart
  refine (gF_at (by rfl) (by rfl)).trans (Ok.eq ?_)
  unfold F_law_apart
  rw [e2]
  generalize XT_QuietError = XQ at *
  generalize (sL (sLc (sR1 (sLit (.int 9))) (setV 2) sYes (sOp oEq (sVar 2) (sVar 1)) [2])) = CC at *
  generalize D.lst ((List.range 9).map fun j : Nat => D.bl (decide ((0 : Int) + (j : Int) = 6))) = LR at *
  generalize D.lst [.bl false, .bl false, .bl false, .bl false, .bl false, .bl false, .bl true, .bl false, .bl false] = LQ at *
  generalize D.exn "BadImage" ns ds = EX at *
  simp [-exnI_eq, -oEq_d, e1, hc, hl, hq]
theorem cls_NoRoom {ns : List Str} {ds : List D} : g_law_classes [(.N, .exn "NoRoom" ns ds)] = some (.N, .lst [.bl false, .bl false, .bl false, .bl false, .bl false, .bl false, .bl false, .bl true, .bl false]) := by
  have e0 : exnI XT_BadProgram (.N, .exn "NoRoom" ns ds) = some (.N, .bl false) := rfl
  have e1 : exnI XT_BadText (.N, .exn "NoRoom" ns ds) = some (.N, .bl false) := rfl
  have e2 : exnI XT_BadCode (.N, .exn "NoRoom" ns ds) = some (.N, .bl false) := rfl
  have e3 : exnI XT_Refused (.N, .exn "NoRoom" ns ds) = some (.N, .bl false) := rfl
  have e4 : exnI XT_BadArguments (.N, .exn "NoRoom" ns ds) = some (.N, .bl false) := rfl
  have e5 : exnI XT_BadPicture (.N, .exn "NoRoom" ns ds) = some (.N, .bl false) := rfl
  have e6 : exnI XT_BadImage (.N, .exn "NoRoom" ns ds) = some (.N, .bl false) := rfl
  have e7 : exnI XT_NoRoom (.N, .exn "NoRoom" ns ds) = some (.N, .bl true) := rfl
  have e8 : exnI XT_NoObject (.N, .exn "NoRoom" ns ds) = some (.N, .bl false) := rfl
  unfold g_law_classes
  refine (gF_at (by rfl) (by rfl)).trans (Ok.eq ?_)
  unfold F_law_classes
  have l4 : 4 ≤ lim := by decide
  have l7 : 7 ≤ lim := by decide
  have l9 : 9 ≤ lim := by decide
  have l3 : 3 ≤ lim := by decide
  have l2 : 2 ≤ lim := by decide
  generalize XT_BadProgram = X0 at *
  generalize XT_BadText = X1 at *
  generalize XT_BadCode = X2 at *
  generalize XT_Refused = X3 at *
  generalize XT_BadArguments = X4 at *
  generalize XT_BadPicture = X5 at *
  generalize XT_BadImage = X6 at *
  generalize XT_NoRoom = X7 at *
  generalize XT_NoObject = X8 at *
  generalize D.exn "NoRoom" ns ds = EX at *
  simp [-exnI_eq, e0, e1, e2, e3, e4, e5, e6, e7, e8, l4, l3, l2, l7, l9]
theorem ap_NoRoom {ns : List Str} {ds : List D} : g_law_apart [(.N, .exn "NoRoom" ns ds), (.N, .int 7)] = some (.N, .bl true) := by
  have e1 : exnI XT_QuietError (.N, .exn "NoRoom" ns ds) = some (.N, .bl true) := rfl
  have e2 : XT_ValueError = XT_QuietError := rfl
  have hc := cls_NoRoom (ns := ns) (ds := ds)
  have hl := lc9_at (.exn "NoRoom" ns ds) 7
  have hq : oEq (.N, .lst [.bl false, .bl false, .bl false, .bl false, .bl false, .bl false, .bl false, .bl true, .bl false]) (.N, .lst ((List.range 9).map fun j : Nat => D.bl (decide ((0 : Int) + (j : Int) = 7)))) = some (.N, .bl true) := rfl
  unfold g_law_apart
  refine (gF_at (by rfl) (by rfl)).trans (Ok.eq ?_)
  unfold F_law_apart
  rw [e2]
  generalize XT_QuietError = XQ at *
  generalize (sL (sLc (sR1 (sLit (.int 9))) (setV 2) sYes (sOp oEq (sVar 2) (sVar 1)) [2])) = CC at *
  generalize D.lst ((List.range 9).map fun j : Nat => D.bl (decide ((0 : Int) + (j : Int) = 7))) = LR at *
  generalize D.lst [.bl false, .bl false, .bl false, .bl false, .bl false, .bl false, .bl false, .bl true, .bl false] = LQ at *
  generalize D.exn "NoRoom" ns ds = EX at *
  simp [-exnI_eq, -oEq_d, e1, hc, hl, hq]
theorem cls_NoObject {ns : List Str} {ds : List D} : g_law_classes [(.N, .exn "NoObject" ns ds)] = some (.N, .lst [.bl false, .bl false, .bl false, .bl false, .bl false, .bl false, .bl false, .bl false, .bl true]) := by
  have e0 : exnI XT_BadProgram (.N, .exn "NoObject" ns ds) = some (.N, .bl false) := rfl
  have e1 : exnI XT_BadText (.N, .exn "NoObject" ns ds) = some (.N, .bl false) := rfl
  have e2 : exnI XT_BadCode (.N, .exn "NoObject" ns ds) = some (.N, .bl false) := rfl
  have e3 : exnI XT_Refused (.N, .exn "NoObject" ns ds) = some (.N, .bl false) := rfl
  have e4 : exnI XT_BadArguments (.N, .exn "NoObject" ns ds) = some (.N, .bl false) := rfl
  have e5 : exnI XT_BadPicture (.N, .exn "NoObject" ns ds) = some (.N, .bl false) := rfl
  have e6 : exnI XT_BadImage (.N, .exn "NoObject" ns ds) = some (.N, .bl false) := rfl
  have e7 : exnI XT_NoRoom (.N, .exn "NoObject" ns ds) = some (.N, .bl false) := rfl
  have e8 : exnI XT_NoObject (.N, .exn "NoObject" ns ds) = some (.N, .bl true) := rfl
  unfold g_law_classes
  refine (gF_at (by rfl) (by rfl)).trans (Ok.eq ?_)
  unfold F_law_classes
  have l4 : 4 ≤ lim := by decide
  have l7 : 7 ≤ lim := by decide
  have l9 : 9 ≤ lim := by decide
  have l3 : 3 ≤ lim := by decide
  have l2 : 2 ≤ lim := by decide
  generalize XT_BadProgram = X0 at *
  generalize XT_BadText = X1 at *
  generalize XT_BadCode = X2 at *
  generalize XT_Refused = X3 at *
  generalize XT_BadArguments = X4 at *
  generalize XT_BadPicture = X5 at *
  generalize XT_BadImage = X6 at *
  generalize XT_NoRoom = X7 at *
  generalize XT_NoObject = X8 at *
  generalize D.exn "NoObject" ns ds = EX at *
  simp [-exnI_eq, e0, e1, e2, e3, e4, e5, e6, e7, e8, l4, l3, l2, l7, l9]
theorem ap_NoObject {ns : List Str} {ds : List D} : g_law_apart [(.N, .exn "NoObject" ns ds), (.N, .int 8)] = some (.N, .bl true) := by
  have e1 : exnI XT_QuietError (.N, .exn "NoObject" ns ds) = some (.N, .bl true) := rfl
  have e2 : XT_ValueError = XT_QuietError := rfl
  have hc := cls_NoObject (ns := ns) (ds := ds)
  have hl := lc9_at (.exn "NoObject" ns ds) 8
  have hq : oEq (.N, .lst [.bl false, .bl false, .bl false, .bl false, .bl false, .bl false, .bl false, .bl false, .bl true]) (.N, .lst ((List.range 9).map fun j : Nat => D.bl (decide ((0 : Int) + (j : Int) = 8)))) = some (.N, .bl true) := rfl
  unfold g_law_apart
  refine (gF_at (by rfl) (by rfl)).trans (Ok.eq ?_)
  unfold F_law_apart
  rw [e2]
  generalize XT_QuietError = XQ at *
  generalize (sL (sLc (sR1 (sLit (.int 9))) (setV 2) sYes (sOp oEq (sVar 2) (sVar 1)) [2])) = CC at *
  generalize D.lst ((List.range 9).map fun j : Nat => D.bl (decide ((0 : Int) + (j : Int) = 8))) = LR at *
  generalize D.lst [.bl false, .bl false, .bl false, .bl false, .bl false, .bl false, .bl false, .bl false, .bl true] = LQ at *
  generalize D.exn "NoObject" ns ds = EX at *
  simp [-exnI_eq, -oEq_d, e1, hc, hl, hq]
end Lw
namespace Lw
open PySem L2 Vf
theorem ne_self {n : Nat} {d : D} (h : Pg n d) (hn : n ≤ 64) : oNe (.N, d) (.N, d) = some (.N, .bl false) := by
  rw [oNe_d]
  show (eqD d d).map _ = _
  rw [eqD_same h.1 h.2.1 (by have := h.2.2; omega)]
  rfl
theorem exnF_of {f : Str} {cs ns : List Str} {c : Str} {ds : List D} {d : D} {r : TD} (h3 : nm (.N, d) = r) (h2 : (ns.zip ds).lookup f = some d) (h : c ∈ cs) : exnF f cs (.N, .exn c ns ds) = some r := by
  rw [exnF_at h h2, h3]
section
variable {T : Tb} {n : Int} {t : Str}
theorem kept1_at (hl : t.length ≤ 100) (ho : PyData.strOk t = true) : g_law_errors_kept [.pu (.int n), .pu (.str t)] T = some (.val (.pu (.bl true)) T) := by
  have l2 : 2 ≤ lim := by decide
  have l1 : 1 ≤ lim := by decide
  have l4 : 4 ≤ lim := by decide
  have hadd : oAdd (.N, .str t) (.N, .str "x") = some (.N, .str (t ++ "x")) := oAdd_str (by show t.length + 1 ≤ lim; unfold lim; omega)
  have hu : PyData.strOk (t ++ "x") = true := strOk_app ho (by decide +kernel)
  have b1 := mkBP (T := T) (t := t) (n := n) (m := n - 1) (u := t ++ "x")
  have b2 := mkBT (T := T) (n := n) (t := t)
  have b3 := mkBC (T := T) (n := n)
  have b4 := mkRf (T := T) (n := n) (t := t)
  have p1 := ap_BadProgram (ns := ["why", "place", "number", "part"]) (ds := [.str (t ++ "x"), .int (n - 1), .int n, .str t])
  have p2 := ap_BadText (ns := ["why", "line"]) (ds := [.str t, .int n])
  have p3 := ap_BadCode (ns := ["at"]) (ds := [.int n])
  have p4 := ap_Refused (ns := ["other", "walk", "why", "number"]) (ds := [.tup [.int n], .tup [.int 0, .int n], .str t, .int n])
  have f1 : exnF "part" XC_part (.N, .exn "BadProgram" ["why", "place", "number", "part"] [.str (t ++ "x"), .int (n - 1), .int n, .str t]) = some (.N, .str t) := exnF_of (d := .str t) rfl rfl (by decide +kernel)
  have f2 : exnF "number" XC_number (.N, .exn "BadProgram" ["why", "place", "number", "part"] [.str (t ++ "x"), .int (n - 1), .int n, .str t]) = some (.N, .int n) := exnF_of (d := .int n) rfl rfl (by decide +kernel)
  have f3 : exnF "place" XC_place (.N, .exn "BadProgram" ["why", "place", "number", "part"] [.str (t ++ "x"), .int (n - 1), .int n, .str t]) = some (.N, .int (n - 1)) := exnF_of (d := .int (n - 1)) rfl rfl (by decide +kernel)
  have f4 : exnF "why" XC_why (.N, .exn "BadProgram" ["why", "place", "number", "part"] [.str (t ++ "x"), .int (n - 1), .int n, .str t]) = some (.N, .str (t ++ "x")) := exnF_of (d := .str (t ++ "x")) rfl rfl (by decide +kernel)
  have f5 : exnF "line" XC_line (.N, .exn "BadText" ["why", "line"] [.str t, .int n]) = some (.N, .int n) := exnF_of (d := .int n) rfl rfl (by decide +kernel)
  have f6 : exnF "why" XC_why (.N, .exn "BadText" ["why", "line"] [.str t, .int n]) = some (.N, .str t) := exnF_of (d := .str t) rfl rfl (by decide +kernel)
  have f7 : exnF "at" XC_at (.N, .exn "BadCode" ["at"] [.int n]) = some (.N, .int n) := exnF_of (d := .int n) rfl rfl (by decide +kernel)
  have f8 : exnF "number" XC_number (.N, .exn "Refused" ["other", "walk", "why", "number"] [.tup [.int n], .tup [.int 0, .int n], .str t, .int n]) = some (.N, .int n) := exnF_of (d := .int n) rfl rfl (by decide +kernel)
  have f9 : exnF "why" XC_why (.N, .exn "Refused" ["other", "walk", "why", "number"] [.tup [.int n], .tup [.int 0, .int n], .str t, .int n]) = some (.N, .str t) := exnF_of (d := .str t) rfl rfl (by decide +kernel)
  have f10 : exnF "walk" XC_walk (.N, .exn "Refused" ["other", "walk", "why", "number"] [.tup [.int n], .tup [.int 0, .int n], .str t, .int n]) = some (.N, .tup [.int 0, .int n]) := exnF_of (d := .tup [.int 0, .int n]) rfl rfl (by decide +kernel)
  have f11 : exnF "other" XC_other (.N, .exn "Refused" ["other", "walk", "why", "number"] [.tup [.int n], .tup [.int 0, .int n], .str t, .int n]) = some (.N, .tup [.int n]) := exnF_of (d := .tup [.int n]) rfl rfl (by decide +kernel)
  have g1 : oNe (.N, .tup [.str t, .int n, .int (n - 1), .str (t ++ "x")]) (.N, .tup [.str t, .int n, .int (n - 1), .str (t ++ "x")]) = some (.N, .bl false) := ne_self (n := 1) (pg_tup fun d hd => by
    simp only [List.mem_cons, List.not_mem_nil, or_false] at hd
    rcases hd with rfl | rfl | rfl | rfl
    · exact pg_str 0 ho
    · exact pg_int 0 _
    · exact pg_int 0 _
    · exact pg_str 0 hu) (by decide)
  have g2 : oNe (.N, .tup [.int n, .str t]) (.N, .tup [.int n, .str t]) = some (.N, .bl false) := ne_self (n := 1) (pg_tup fun d hd => by
    simp only [List.mem_cons, List.not_mem_nil, or_false] at hd
    rcases hd with rfl | rfl
    · exact pg_int 0 _
    · exact pg_str 0 ho) (by decide)
  have g3 : oNe (.N, .tup [.int n, .str t, .tup [.int 0, .int n], .tup [.int n]]) (.N, .tup [.int n, .str t, .tup [.int 0, .int n], .tup [.int n]]) = some (.N, .bl false) := ne_self (n := 2) (pg_tup fun d hd => by
    simp only [List.mem_cons, List.not_mem_nil, or_false] at hd
    rcases hd with rfl | rfl | rfl | rfl
    · exact pg_int 1 _
    · exact pg_str 1 ho
    · exact pg_tup fun d hd => by
        simp only [List.mem_cons, List.not_mem_nil, or_false] at hd
        rcases hd with rfl | rfl <;> exact pg_int 0 _
    · exact pg_tup fun d hd => by
        simp only [List.mem_cons, List.not_mem_nil, or_false] at hd
        rcases hd with rfl
        exact pg_int 0 _) (by decide)
  have g4 : oNe (.N, .int n) (.N, .int n) = some (.N, .bl false) := ne_self (n := 0) (pg_int 0 n) (by decide)
  unfold g_law_errors_kept
  refine (gFX_at (by rfl)).trans ?_
  have e0 : env0H N_law_errors_kept.length [.pu (.int n), .pu (.str t)] T = ⟨[.val .N (.int n), .val .N (.str t), .un, .un, .un, .un], T⟩ := rfl
  rw [e0]
  refine Ok.eq ?_
  rw [Ok_bind]
  unfold F_law_errors_kept
  generalize t ++ "x" = u at *
  have hsub : oSub (.N, .int n) (.N, .int 1) = some (.N, .int (n - 1)) := rfl
  generalize n - 1 = m at *
  generalize D.exn "BadProgram" ["why", "place", "number", "part"] [.str u, .int m, .int n, .str t] = E1 at *
  generalize D.exn "BadText" ["why", "line"] [.str t, .int n] = E2 at *
  generalize D.exn "BadCode" ["at"] [.int n] = E3 at *
  generalize D.exn "Refused" ["other", "walk", "why", "number"] [.tup [.int n], .tup [.int 0, .int n], .str t, .int n] = E4 at *
  refine seq_step (P := fun o => o = .nx ⟨[.val .N (.int n), .val .N (.str t), .val .N E1, .un, .un, .un], T⟩) (by simp [-oAdd_int, -oSub_int, hadd, hsub, b1]) ?_
  rintro o rfl
  refine ⟨_, rfl, ?_⟩
  refine seq_step (P := fun o => o = .nx ⟨[.val .N (.int n), .val .N (.str t), .val .N E1, .val .N E2, .un, .un], T⟩) (by simp [b2]) ?_
  rintro o rfl
  refine ⟨_, rfl, ?_⟩
  refine seq_step (P := fun o => o = .nx ⟨[.val .N (.int n), .val .N (.str t), .val .N E1, .val .N E2, .val .N E3, .un], T⟩) (by simp [b3]) ?_
  rintro o rfl
  refine ⟨_, rfl, ?_⟩
  refine seq_step (P := fun o => o = .nx ⟨[.val .N (.int n), .val .N (.str t), .val .N E1, .val .N E2, .val .N E3, .val .N E4], T⟩) (by simp [b4, l1, l2]) ?_
  rintro o rfl
  refine ⟨_, rfl, ?_⟩
  refine seq_step (P := fun o => o = .nx ⟨[.val .N (.int n), .val .N (.str t), .val .N E1, .val .N E2, .val .N E3, .val .N E4], T⟩) (by simp [-oNe_d, -oSub_int, f1, f2, f3, f4, f5, f6, g1, g2, hadd, hsub, l2, l4]) ?_
  rintro o rfl
  refine ⟨_, rfl, ?_⟩
  refine seq_step (P := fun o => o = .nx ⟨[.val .N (.int n), .val .N (.str t), .val .N E1, .val .N E2, .val .N E3, .val .N E4], T⟩) (by simp [-oNe_d, f7, f8, f9, f10, f11, g3, g4, l1, l2, l4]) ?_
  rintro o rfl
  refine ⟨_, rfl, ?_⟩
  simp [p1, p2, p3, p4]
theorem kept2_at (hl : t.length ≤ 100) (ho : PyData.strOk t = true) : g_law_more_errors_kept [.pu (.int n), .pu (.str t)] T = some (.val (.pu (.bl true)) T) := by
  have l2 : 2 ≤ lim := by decide
  have l3 : 3 ≤ lim := by decide
  have hadd : oAdd (.N, .str t) (.N, .str "x") = some (.N, .str (t ++ "x")) := oAdd_str (by show t.length + 1 ≤ lim; unfold lim; omega)
  have hu : PyData.strOk (t ++ "x") = true := strOk_app ho (by decide +kernel)
  have b2 := mkPi (T := T) (t := t) (n := n) (u := t ++ "x")
  have b3 := mkBI (T := T) (n := n) (t := t)
  have b4 := mkNR (T := T) (n := n)
  have b5 := mkNO (T := T) (n := n)
  have p1 := ap_BadArguments (ns := []) (ds := [])
  have p2 := ap_BadPicture (ns := ["why", "number", "part"]) (ds := [.str (t ++ "x"), .int n, .str t])
  have p3 := ap_BadImage (ns := ["why", "line"]) (ds := [.str t, .int n])
  have p4 := ap_NoRoom (ns := ["words"]) (ds := [.int n])
  have p5 := ap_NoObject (ns := ["number"]) (ds := [.int n])
  have f1 : exnF "part" XC_part (.N, .exn "BadPicture" ["why", "number", "part"] [.str (t ++ "x"), .int n, .str t]) = some (.N, .str t) := exnF_of (d := .str t) rfl rfl (by decide +kernel)
  have f2 : exnF "number" XC_number (.N, .exn "BadPicture" ["why", "number", "part"] [.str (t ++ "x"), .int n, .str t]) = some (.N, .int n) := exnF_of (d := .int n) rfl rfl (by decide +kernel)
  have f4 : exnF "why" XC_why (.N, .exn "BadPicture" ["why", "number", "part"] [.str (t ++ "x"), .int n, .str t]) = some (.N, .str (t ++ "x")) := exnF_of (d := .str (t ++ "x")) rfl rfl (by decide +kernel)
  have f5 : exnF "line" XC_line (.N, .exn "BadImage" ["why", "line"] [.str t, .int n]) = some (.N, .int n) := exnF_of (d := .int n) rfl rfl (by decide +kernel)
  have f6 : exnF "why" XC_why (.N, .exn "BadImage" ["why", "line"] [.str t, .int n]) = some (.N, .str t) := exnF_of (d := .str t) rfl rfl (by decide +kernel)
  have f7 : exnF "words" XC_words (.N, .exn "NoRoom" ["words"] [.int n]) = some (.N, .int n) := exnF_of (d := .int n) rfl rfl (by decide +kernel)
  have f8 : exnF "number" XC_number (.N, .exn "NoObject" ["number"] [.int n]) = some (.N, .int n) := exnF_of (d := .int n) rfl rfl (by decide +kernel)
  have g1 : oNe (.N, .tup [.str t, .int n, .str (t ++ "x")]) (.N, .tup [.str t, .int n, .str (t ++ "x")]) = some (.N, .bl false) := ne_self (n := 1) (pg_tup fun d hd => by
    simp only [List.mem_cons, List.not_mem_nil, or_false] at hd
    rcases hd with rfl | rfl | rfl
    · exact pg_str 0 ho
    · exact pg_int 0 _
    · exact pg_str 0 hu) (by decide)
  have g2 : oNe (.N, .tup [.int n, .str t]) (.N, .tup [.int n, .str t]) = some (.N, .bl false) := ne_self (n := 1) (pg_tup fun d hd => by
    simp only [List.mem_cons, List.not_mem_nil, or_false] at hd
    rcases hd with rfl | rfl
    · exact pg_int 0 _
    · exact pg_str 0 ho) (by decide)
  have g4 : oNe (.N, .int n) (.N, .int n) = some (.N, .bl false) := ne_self (n := 0) (pg_int 0 n) (by decide)
  unfold g_law_more_errors_kept
  refine (gFX_at (by rfl)).trans ?_
  have e0 : env0H N_law_more_errors_kept.length [.pu (.int n), .pu (.str t)] T = ⟨[.val .N (.int n), .val .N (.str t), .un, .un, .un, .un, .un], T⟩ := rfl
  rw [e0]
  refine Ok.eq ?_
  rw [Ok_bind]
  unfold F_law_more_errors_kept
  have e1 : xMakeE0 "BadArguments" ⟨[.val .N (.int n), .val .N (.str t), .un, .un, .un, .un, .un], T⟩ = some (.val (.pu (.exn "BadArguments" [] [])) T) := rfl
  generalize t ++ "x" = u at *
  generalize D.exn "BadArguments" [] [] = E1 at *
  generalize xMakeE0 "BadArguments" = M0 at *
  generalize D.exn "BadPicture" ["why", "number", "part"] [.str u, .int n, .str t] = E2 at *
  generalize D.exn "BadImage" ["why", "line"] [.str t, .int n] = E3 at *
  generalize D.exn "NoRoom" ["words"] [.int n] = E4 at *
  generalize D.exn "NoObject" ["number"] [.int n] = E5 at *
  refine seq_step (P := fun o => o = .nx ⟨[.val .N (.int n), .val .N (.str t), .val .N E1, .un, .un, .un, .un], T⟩) (by simp [e1]) ?_
  rintro o rfl
  refine ⟨_, rfl, ?_⟩
  refine seq_step (P := fun o => o = .nx ⟨[.val .N (.int n), .val .N (.str t), .val .N E1, .val .N E2, .un, .un, .un], T⟩) (by simp [hadd, b2]) ?_
  rintro o rfl
  refine ⟨_, rfl, ?_⟩
  refine seq_step (P := fun o => o = .nx ⟨[.val .N (.int n), .val .N (.str t), .val .N E1, .val .N E2, .val .N E3, .un, .un], T⟩) (by simp [b3]) ?_
  rintro o rfl
  refine ⟨_, rfl, ?_⟩
  refine seq_step (P := fun o => o = .nx ⟨[.val .N (.int n), .val .N (.str t), .val .N E1, .val .N E2, .val .N E3, .val .N E4, .un], T⟩) (by simp [b4]) ?_
  rintro o rfl
  refine ⟨_, rfl, ?_⟩
  refine seq_step (P := fun o => o = .nx ⟨[.val .N (.int n), .val .N (.str t), .val .N E1, .val .N E2, .val .N E3, .val .N E4, .val .N E5], T⟩) (by simp [b5]) ?_
  rintro o rfl
  refine ⟨_, rfl, ?_⟩
  refine seq_step (P := fun o => o = .nx ⟨[.val .N (.int n), .val .N (.str t), .val .N E1, .val .N E2, .val .N E3, .val .N E4, .val .N E5], T⟩) (by simp [-oNe_d, f1, f2, f4, f5, f6, g1, g2, hadd, l2, l3]) ?_
  rintro o rfl
  refine ⟨_, rfl, ?_⟩
  refine seq_step (P := fun o => o = .nx ⟨[.val .N (.int n), .val .N (.str t), .val .N E1, .val .N E2, .val .N E3, .val .N E4, .val .N E5], T⟩) (by simp [-oNe_d, f7, f8, g4, p1, p2]) ?_
  rintro o rfl
  refine ⟨_, rfl, ?_⟩
  simp [p3, p4, p5]
end
end Lw
namespace Lw
open PySem L2 Vf
def iM (l : List Int) : Mob := .lst (l.map fun z => HV.pu (.int z))
theorem ints_snap {T : Tb} {k : Nat} : ∀ l : List Int, mapO (snapN T k) (l.map fun z => HV.pu (.int z)) = some (l.map D.int)
  | [] => rfl
  | z :: l => by
    show (snapN T k (.pu (.int z))).bind _ = _
    rw [snapN_pu, Option.bind_some, ints_snap l]
    rfl
theorem zFor_go {fi : FI} {s : TD → Ev → Option Ev} {A : SX} {env : Ev} {items : List TD} (h : fi env = some items) : zFor fi s A env = forZ A s items env := by
  rw [zFor_eq, h]
  rfl
theorem zif_t {c : FXT} {A B : SX} {env : Ev} {Q : OutX → Prop} {T : Tb} (hc : c env = some (.val true T)) (h : Ok (A ⟨env.s, T⟩) Q) : Ok (zIf c A B env) Q := by
  rw [zIf_eq, hc]
  exact h
theorem zif_f {c : FXT} {A B : SX} {env : Ev} {Q : OutX → Prop} {T : Tb} (hc : c env = some (.val false T)) (h : Ok (B ⟨env.s, T⟩) Q) : Ok (zIf c A B env) Q := by
  rw [zIf_eq, hc]
  exact h
theorem iM_app {T0 R : Tb} {n : Nat} {l : List Int} {z : Int} (hn : n = T0.length) (hl : l.length ≤ 100000) : lmK mApp (.ob n) [.pu (.int z)] (T0 ++ (some (iM l) :: R)) = some (.val (.pu .non) (T0 ++ (some (iM (l ++ [z])) :: R))) := by
  subst hn
  have g1 : (T0 ++ (some (iM l) :: R))[T0.length]? = some (some (.lst (l.map fun z => HV.pu (.int z)))) := by simp [iM]
  rw [lmK_ob g1, mApp_one, if_pos (by rw [List.length_map]; unfold lim; omega)]
  show some (XRes.val (HV.pu D.non) ((T0 ++ (some (iM l) :: R)).set T0.length (some (Mob.lst ((l.map fun z => HV.pu (.int z)) ++ [.pu (.int z)]))))) = _
  rw [List.set_append_right _ _ (by omega), show (Mob.lst ((l.map fun z => HV.pu (.int z)) ++ [.pu (.int z)])) = iM (l ++ [z]) by unfold iM; rw [List.map_append]; rfl]
  simp
theorem isLst_at {T : Tb} {n : Nat} {xs : List HV} (h : T[n]? = some (some (.lst xs))) : isLst T (.ob n) = some () := by
  have hm2 : ∀ W : Option (Option Mob), W = some (some (.lst xs)) → (Option.map (fun _ => ()) (match W with | some (some (Mob.lst xs)) => some (n, xs) | _ => none)) = some () := by
    rintro _ rfl
    rfl
  exact hm2 _ h
theorem iM_isl {T0 R : Tb} {n : Nat} {l : List Int} (hn : n = T0.length) : isLst (T0 ++ (some (iM l) :: R)) (.ob n) = some () := by
  subst hn
  exact isLst_at (xs := l.map fun z => HV.pu (.int z)) (by simp [iM])
def nOw : Sl → Bool
  | .own _ => false
  | _ => true
theorem ownFree_cons (a : Sl) (r : List Sl) : ownFree (a :: r) = (nOw a && ownFree r) := by cases a <;> simp [ownFree, nOw]
def SZ80 : List Int := (List.replicate 40 [8, 256]).flatten
theorem mul40 : oMulX (.N, .lst [.int 8, .int 256]) (.N, .int 40) = some (.N, .lst (SZ80.map D.int)) := by
  show oMul (.N, .lst [.int 8, .int 256]) (.N, .int 40) = _
  rw [oMul_lst ⟨by decide, by decide⟩]
  rfl
theorem sz80_ok : SZ80.length ≤ 1000 ∧ ∀ s ∈ SZ80, 0 < s ∧ s < 4611686018427387904 := ⟨by decide, by decide⟩
/-- the digits of the octets -/
def DgOk (DD : List D) : Prop := ∀ i : Nat, i < 80 → ∃ d : Int, oIx (.N, .lst DD) (.N, .int (i : Int)) = some (.N, .int d) ∧ 0 ≤ d ∧ d ≤ 255
theorem dg_ok {rw : List Int} (h : RowOk SZ80 rw 0) : DgOk (rw.map D.int) := fun i hi => by
  have hl : SZ80.length = 80 := by decide
  obtain ⟨d, h1, h2, h3⟩ := h.ix i (by omega)
  have h4 : ∀ s ∈ SZ80, s ≤ 256 := by decide
  have h5 := h4 _ (List.getElem_mem (l := SZ80) (n := i) (by omega))
  exact ⟨d, h1, h2, by omega⟩
section
variable {SC NN TX : D} {RD DD : List D} {l : List Int} {k : Nat} {s7 s8 : Sl} {r1 : Int}
theorem oct_turn (hk : k < 40) (hd : DgOk DD) (hr : oIx (.N, .lst RD) (.N, .int 1) = some (.N, .int r1)) (hl : l.length = k) :
    Ok (B_law_1 ⟨[.val .N SC, .val .N NN, .val .N TX, .val .N (.lst RD), .val .N (.lst DD), .han 0, .val .N (.int (k : Int)), s7, s8, .un, .un, .un, .un, .un], [some (iM l)]⟩) fun o => ∃ (w y : Int), 0 ≤ w ∧ w ≤ 255 ∧
      o = .nx ⟨[.val .N SC, .val .N NN, .val .N TX, .val .N (.lst RD), .val .N (.lst DD), .han 0, .val .N (.int (k : Int)), .val .N (.int y), .val .N (.int w), .un, .un, .un, .un, .un], [some (iM (l ++ [w]))]⟩ := by
  obtain ⟨y, hy, y0, y1⟩ := hd (2 * k) (by omega)
  obtain ⟨w, hw, w0, w1⟩ := hd (1 + 2 * k) (by omega)
  rw [show ((2 * k : Nat) : Int) = 2 * (k : Int) by omega] at hy
  rw [show ((1 + 2 * k : Nat) : Int) = 1 + 2 * (k : Int) by omega] at hw
  have hb : bitsOk 2 (k : Int) = true := bits_sm (by decide) (by decide) (by omega) (by omega)
  have hll : l.length ≤ lim := by unfold lim; omega
  unfold B_law_1
  refine seq_step (P := fun o => o = .nx ⟨[.val .N SC, .val .N NN, .val .N TX, .val .N (.lst RD), .val .N (.lst DD), .han 0, .val .N (.int (k : Int)), .val .N (.int y), s8, .un, .un, .un, .un, .un], [some (iM l)]⟩) (by simp [hb, hy]) ?_
  rintro o rfl
  refine ⟨_, rfl, ?_⟩
  refine seq_step (P := fun o => o = .nx ⟨[.val .N SC, .val .N NN, .val .N TX, .val .N (.lst RD), .val .N (.lst DD), .han 0, .val .N (.int (k : Int)), .val .N (.int y), .val .N (.int w), .un, .un, .un, .un, .un], [some (iM l)]⟩) (by simp [hb, hw]) ?_
  rintro o rfl
  refine ⟨_, rfl, ?_⟩
  refine seq_step (P := fun o => ∃ w : Int, 0 ≤ w ∧ w ≤ 255 ∧ o = .nx ⟨[.val .N SC, .val .N NN, .val .N TX, .val .N (.lst RD), .val .N (.lst DD), .han 0, .val .N (.int (k : Int)), .val .N (.int y), .val .N (.int w), .un, .un, .un, .un, .un], [some (iM l)]⟩) ?_ ?_
  · have q0 := Int.emod_nonneg w (show (128 : Int) ≠ 0 by decide)
    have q1 := Int.emod_lt_of_pos w (show (0 : Int) < 128 by decide)
    have big : Ok (zSet 8 (xE (sOp oAdd (sLit (.int 128)) (sOp oMod (sB intB (sCons (sVar 8) sNil)) (sLit (.int 128))))) ⟨[.val .N SC, .val .N NN, .val .N TX, .val .N (.lst RD), .val .N (.lst DD), .han 0, .val .N (.int (k : Int)), .val .N (.int y), .val .N (.int w), .un, .un, .un, .un, .un], [some (iM l)]⟩) fun o => ∃ w : Int, 0 ≤ w ∧ w ≤ 255 ∧ o = .nx ⟨[.val .N SC, .val .N NN, .val .N TX, .val .N (.lst RD), .val .N (.lst DD), .han 0, .val .N (.int (k : Int)), .val .N (.int y), .val .N (.int w), .un, .un, .un, .un, .un], [some (iM l)]⟩ := by
      refine ⟨_, Ok.eq (a := .nx ⟨[.val .N SC, .val .N NN, .val .N TX, .val .N (.lst RD), .val .N (.lst DD), .han 0, .val .N (.int (k : Int)), .val .N (.int y), .val .N (.int (128 + w % 128)), .un, .un, .un, .un, .un], [some (iM l)]⟩) (by simp), 128 + w % 128, by omega, by omega, rfl⟩
    by_cases c3 : y < 3
    · exact zif_t (T := [some (iM l)]) (Ok.eq (by simp [c3])) big
    · by_cases c0 : r1 = 0 ∧ y < 7
      · exact zif_t (T := [some (iM l)]) (Ok.eq (by simp [c3, hr, c0.1, c0.2])) big
      · refine zif_f (T := [some (iM l)]) ?_ ?_
        · by_cases z : r1 = 0
          · have z2 : ¬ y < 7 := fun q => c0 ⟨z, q⟩
            exact Ok.eq (by simp [c3, hr, z, z2])
          · exact Ok.eq (by simp [c3, hr, z])
        · by_cases e3 : y = 3
          · exact zif_t (T := [some (iM l)]) (Ok.eq (by simp [e3])) ⟨_, Ok.eq (a := .nx ⟨[.val .N SC, .val .N NN, .val .N TX, .val .N (.lst RD), .val .N (.lst DD), .han 0, .val .N (.int (k : Int)), .val .N (.int y), .val .N (.int 0), .un, .un, .un, .un, .un], [some (iM l)]⟩) (by simp), 0, by decide, by decide, rfl⟩
          · refine zif_f (T := [some (iM l)]) (Ok.eq (by simp [e3])) ?_
            by_cases e4 : y = 4
            · exact zif_t (T := [some (iM l)]) (Ok.eq (by simp [e4])) ⟨_, Ok.eq (a := .nx ⟨[.val .N SC, .val .N NN, .val .N TX, .val .N (.lst RD), .val .N (.lst DD), .han 0, .val .N (.int (k : Int)), .val .N (.int y), .val .N (.int 128), .un, .un, .un, .un, .un], [some (iM l)]⟩) (by simp), 128, by decide, by decide, rfl⟩
            · exact zif_f (T := [some (iM l)]) (Ok.eq (by simp [e4])) ⟨_, rfl, w, w0, w1, rfl⟩
  rintro o ⟨w, w0, w1, rfl⟩
  refine ⟨_, rfl, .nx ⟨[.val .N SC, .val .N NN, .val .N TX, .val .N (.lst RD), .val .N (.lst DD), .han 0, .val .N (.int (k : Int)), .val .N (.int y), .val .N (.int w), .un, .un, .un, .un, .un], [some (iM (l ++ [w]))]⟩, ?_, w, _, w0, w1, rfl⟩
  have h1 : lmK mApp (.ob 0) [.pu (.int w)] [some (iM l)] = some (.val (.pu .non) [some (iM (l ++ [w]))]) := iM_app (T0 := []) rfl (by omega)
  have h2 : isLst [some (iM l)] (.ob 0) = some () := iM_isl (T0 := []) (R := []) rfl
  generalize ([some (iM l)] : Tb) = T1 at *
  generalize ([some (iM (l ++ [w]))] : Tb) = T2 at *
  exact Ok.eq (by simp [h1, h2])
theorem octs_at {m : Nat} (hm : m ≤ 40) (hd : DgOk DD) (h0 : oIx (.N, .lst RD) (.N, .int 0) = some (.N, .int (m : Int))) (hr : oIx (.N, .lst RD) (.N, .int 1) = some (.N, .int r1)) :
    Ok (zFor (sR1 (sOp oIx (sVar 3) (sLit (.int 0)))) (setV 6)
  B_law_1 ⟨[.val .N SC, .val .N NN, .val .N TX, .val .N (.lst RD), .val .N (.lst DD), .han 0, .un, .un, .un, .un, .un, .un, .un, .un], [some (iM [])]⟩) fun o => ∃ (l : List Int) (s6 s7 s8 : Sl), (nOw s6 = true ∧ nOw s7 = true ∧ nOw s8 = true) ∧ (∀ z ∈ l, 0 ≤ z ∧ z ≤ 255) ∧ l.length ≤ 40 ∧
      o = .nx ⟨[.val .N SC, .val .N NN, .val .N TX, .val .N (.lst RD), .val .N (.lst DD), .han 0, s6, s7, s8, .un, .un, .un, .un, .un], [some (iM l)]⟩ := by
  have hf : (sR1 (sOp oIx (sVar 3) (sLit (.int 0)))) ⟨[.val .N SC, .val .N NN, .val .N TX, .val .N (.lst RD), .val .N (.lst DD), .han 0, .un, .un, .un, .un, .un, .un, .un, .un], [some (iM [])]⟩ = some (iRng m 0) := by
    have h62 : ((m : Nat) : Int) < 4611686018427387904 := by omega
    exact Ok.eq (by simp [h0, h62])
  rw [zFor_go hf]
  refine forZ_ok (fun k e => ∃ (l : List Int) (s6 s7 s8 : Sl), (nOw s6 = true ∧ nOw s7 = true ∧ nOw s8 = true) ∧ (∀ z ∈ l, 0 ≤ z ∧ z ≤ 255) ∧ l.length = k ∧ e = ⟨[.val .N SC, .val .N NN, .val .N TX, .val .N (.lst RD), .val .N (.lst DD), .han 0, s6, s7, s8, .un, .un, .un, .un, .un], [some (iM l)]⟩) ⟨[], .un, .un, .un, ⟨rfl, rfl, rfl⟩, (fun z hz => by cases hz), rfl, rfl⟩ ?_ ?_
  · rintro k r _ hk ⟨l, s6, s7, s8, hp, ho, hl, rfl⟩
    obtain ⟨hk2, rfl⟩ := iRng_get hk
    refine ⟨⟨[.val .N SC, .val .N NN, .val .N TX, .val .N (.lst RD), .val .N (.lst DD), .han 0, .val .N (.int (k : Int)), s7, s8, .un, .un, .un, .un, .un], [some (iM l)]⟩, by simp [setV], ?_⟩
    refine (oct_turn (by omega) hd hr hl).mono ?_
    rintro o ⟨w, y, w0, w1, rfl⟩
    refine ⟨l ++ [w], _, _, _, ⟨rfl, rfl, rfl⟩, fun z hz => ?_, by simp [hl], rfl⟩
    rcases List.mem_append.mp hz with h | h
    · exact ho z h
    · rw [List.mem_singleton.mp h]; exact ⟨w0, w1⟩
  · rintro _ ⟨l, s6, s7, s8, hp, ho, hl, rfl⟩
    rw [iRng_len] at hl
    exact ⟨l, s6, s7, s8, hp, ho, by omega, rfl⟩
end
end Lw
namespace Lw
open PySem L2 Vf
theorem td_iM {T : Tb} {a : Nat} {os : List Int} (h : T[a]? = some (some (iM os))) : tdX T (.ob a) = some (.T, .lst (os.map D.int)) := by
  rw [tdX_ob h]
  unfold iM
  rw [snapM_lst, ints_snap]
  rfl
theorem mapO_pus {T : Tb} {i : Nat} : ∀ ds : List D, mapO (snapN T i) (ds.map HV.pu) = some ds
  | [] => rfl
  | d :: ds => by
    rw [List.map_cons, mapO_cons, mapO_pus ds]
    simp
theorem td_pus {T : Tb} {a : Nat} {ds : List D} (h : T[a]? = some (some (.lst (ds.map HV.pu)))) : tdX T (.ob a) = some (.T, .lst ds) := by
  rw [tdX_ob h, snapM_lst, mapO_pus]
  rfl
/-- what the first pass gathers -/
def duL (os : List Int) (j : Nat) : List D := (List.range j).map (dueD os)
theorem duL_succ (os : List Int) (j : Nat) : duL os (j + 1) = duL os j ++ [dueD os j] := by
  unfold duL
  rw [List.range_succ, List.map_append]
  rfl
theorem pg_due (os : List Int) (s : Nat) : Pg 1 (dueD os s) := by
  unfold dueD
  refine pg_lst fun d hd => ?_
  simp only [List.mem_cons, List.not_mem_nil, or_false] at hd
  rcases hd with rfl | rfl
  · cases (dueO os s).1 with
    | none => exact ⟨rfl, rfl, by show 0 ≤ 0; omega⟩
    | some n => exact pg_int 0 n
  · exact pg_int 0 _
theorem pg_ints (os : List Int) : Pg 1 (.lst (os.map D.int)) := pg_lst fun d hd => by
  obtain ⟨z, _, rfl⟩ := List.mem_map.mp hd
  exact pg_int 0 z
theorem pg_duL (os : List Int) (j : Nat) : Pg 2 (.lst (duL os j)) := pg_lst fun d hd => by
  obtain ⟨z, _, rfl⟩ := List.mem_map.mp hd
  exact pg_due os z
theorem eq_self {n : Nat} {t : Tg} {d : D} (h : Pg n d) (hn : n ≤ 64) : oEq (t, d) (t, d) = some (.N, .bl true) := by
  rw [oEq_d]
  show (eqD d d).map _ = _
  rw [eqD_same h.1 h.2.1 (by have := h.2.2; omega)]
  rfl
/-- mine: a list of the table or a tuple -/
structure Mine (T : Tb) (x : HV) (os : List Int) : Prop where
  oct : ∀ T', Ext T T' → Oct T' x os
  lst : ∀ T', Ext T T' → listK x T' = some (.val (.ob T'.length) (T' ++ [some (iM os)]))
  sl : ∀ r, ownFree (slH x :: r) = ownFree r
theorem mine_l {T : Tb} {b : Nat} {os : List Int} (h : T[b]? = some (some (iM os))) (ho : ∀ z ∈ os, 0 ≤ z ∧ z ≤ 255) (hl : os.length ≤ 200) : Mine T (.ob b) os where
  oct := fun T' e => oct_l (e.get h) ho hl
  lst := fun T' e => by
    rw [listK_eq, srcM_ob (e.get h)]
    rfl
  sl := fun r => rfl
theorem mine_t {T : Tb} {os : List Int} (ho : ∀ z ∈ os, 0 ≤ z ∧ z ≤ 255) (hl : os.length ≤ 200) : Mine T (.pu (.tup (os.map D.int))) os where
  oct := fun T' _ => oct_t ho hl
  lst := fun T' _ => by
    have e : srcM T' (.pu (.tup (os.map D.int))) = some (.tup ((os.map D.int).map HV.pu)) := rfl
    rw [listK_eq, e]
    show some (XRes.val (HV.ob T'.length) (T' ++ [some (Mob.lst ((os.map D.int).map HV.pu))])) = _
    rw [List.map_map]
    rfl
  sl := fun r => rfl
section
variable {SC NN TX DD : D} {RD : List D} {s6 s7 s8 : Sl} {a : Nat} {T : Tb} {x : HV} {os : List Int}
theorem rd_at {j : Nat} (hT : T[a]? = some (some (iM os))) (ho : ∀ z ∈ os, 0 ≤ z ∧ z ≤ 255) (hl : os.length ≤ 200) (hj : j ≤ os.length) : pK g_law_read_at [.ob a, .pu (.int (j : Int))] T = some (.val (.pu (dueD os j)) T) := by
  have h1 := td_iM hT
  have h2 := read_at ho hl hj
  unfold pK
  rw [mapO_cons, h1, mapO_cons, tdX_pu]
  show (g_law_read_at [(.B, .lst (os.map D.int)), (.N, .int (j : Int))]).bind _ = _
  rw [h2]
  rfl
theorem b2_at {j : Nat} {s12 : Sl} (hm : Mine T x os) (hT : T[a]? = some (some (iM os))) (ho : ∀ z ∈ os, 0 ≤ z ∧ z ≤ 255) (hl : os.length ≤ 200) (hj : j ≤ os.length) :
    Ok (B_law_2 ⟨[.val .N SC, .val .N NN, .val .N TX, .val .N (.lst RD), .val .N DD, .han a, s6, s7, s8, slH x, .han T.length, .val .N (.int (j : Int)), s12, .un], T ++ [some (.lst ((duL os j).map HV.pu))]⟩) fun o => ∃ s12, nOw s12 = true ∧ o = .nx ⟨[.val .N SC, .val .N NN, .val .N TX, .val .N (.lst RD), .val .N DD, .han a, s6, s7, s8, slH x, .han T.length, .val .N (.int (j : Int)), s12, .un], T ++ [some (.lst ((duL os (j + 1)).map HV.pu))]⟩ := by
  obtain ⟨T1, hT1⟩ : ∃ T1 : Tb, T1 = T ++ [some (.lst ((duL os j).map HV.pu))] := ⟨_, rfl⟩
  have ex : Ext T T1 := by rw [hT1]; exact Ext.app _ _
  have h9 : ∀ s12, hVar 9 ⟨[.val .N SC, .val .N NN, .val .N TX, .val .N (.lst RD), .val .N DD, .han a, s6, s7, s8, slH x, .han T.length, .val .N (.int (j : Int)), s12, .un], T1⟩ = some x := fun s12 => by cases x <;> rfl
  have h1 := outcome_at (hm.oct T1 ex) hj
  have h2 := rd_at (ex.get hT) ho hl hj
  have h3 : oNe (.N, dueD os j) (.N, dueD os j) = some (.N, .bl false) := ne_self (pg_due os j) (by decide)
  have h4 : lmK mApp (.ob T.length) [.pu (dueD os j)] T1 = some (.val (.pu .non) (T ++ [some (.lst ((duL os (j + 1)).map HV.pu))])) := by
    have g1 : T1[T.length]? = some (some (.lst ((duL os j).map HV.pu))) := by rw [hT1]; simp
    rw [lmK_ob g1, mApp_one, if_pos (by rw [List.length_map]; unfold duL; rw [List.length_map, List.length_range]; unfold lim; omega)]
    show some (XRes.val (HV.pu D.non) (T1.set T.length (some (Mob.lst ((duL os j).map HV.pu ++ [.pu (dueD os j)]))))) = _
    rw [hT1, List.set_append_right _ _ (by omega), duL_succ, List.map_append]
    simp
  have h5 : isLst T1 (.ob T.length) = some () := isLst_at (xs := (duL os j).map HV.pu) (by rw [hT1]; simp)
  rw [← hT1] at *
  generalize T ++ [some (.lst ((duL os (j + 1)).map HV.pu))] = T2 at *
  generalize dueD os j = dd at *
  generalize slH x = S9 at *
  refine ⟨.nx ⟨[.val .N SC, .val .N NN, .val .N TX, .val .N (.lst RD), .val .N DD, .han a, s6, s7, s8, S9, .han T.length, .val .N (.int (j : Int)), .val .N dd, .un], T2⟩, ?_, .val .N dd, rfl, rfl⟩
  unfold B_law_2
  refine Ok.eq ?_
  refine seq_step (P := fun o => o = .nx ⟨[.val .N SC, .val .N NN, .val .N TX, .val .N (.lst RD), .val .N DD, .han a, s6, s7, s8, S9, .han T.length, .val .N (.int (j : Int)), .val .N dd, .un], T1⟩) (by simp [h9, h1]) ?_
  rintro o rfl
  refine ⟨_, rfl, ?_⟩
  refine seq_step (P := fun o => o = .nx ⟨[.val .N SC, .val .N NN, .val .N TX, .val .N (.lst RD), .val .N DD, .han a, s6, s7, s8, S9, .han T.length, .val .N (.int (j : Int)), .val .N dd, .un], T1⟩) (by simp [-oNe_d, -pK_eq, h2, h3]) ?_
  rintro o rfl
  refine ⟨_, rfl, ?_⟩
  simp [h4, h5]
end
end Lw
namespace Lw
open PySem L2 Vf
section
variable {SC NN TX DD : D} {RD : List D} {s6 s7 s8 : Sl} {a : Nat} {T : Tb} {x : HV} {os : List Int}
theorem rng_at {s11 s12 : Sl} {T' : Tb} {c : Nat} (hT : T'[a]? = some (some (iM os))) (ho : ∀ z ∈ os, 0 ≤ z ∧ z ≤ 255) (hl : os.length ≤ 200) : (xR1 (xOp oAdd (xLen (xH (hVar 5))) (xE (sLit (.int 1))))) ⟨[.val .N SC, .val .N NN, .val .N TX, .val .N (.lst RD), .val .N DD, .han a, s6, s7, s8, slH x, .han c, s11, s12, .un], T'⟩ = some (.val (iRng (os.length + 1) 0) T') := by
  have h1 := (oct_l hT ho hl).len
  have b1 : ((os.length : Nat) : Int) + 1 < 4611686018427387904 := by omega
  have b2 : -4611686018427387904 ≤ ((os.length : Nat) : Int) + 1 := by omega
  have b3 : (((os.length : Nat) : Int) + 1).toNat = os.length + 1 := by omega
  generalize slH x = S9 at *
  generalize ((os.length : Nat) : Int) = L at *
  refine Ok.eq ?_
  simp [h1, b1, b2, b3]
theorem gath_at (hm : Mine T x os) (hT : T[a]? = some (some (iM os))) (ho : ∀ z ∈ os, 0 ≤ z ∧ z ≤ 255) (hl : os.length ≤ 200) :
    Ok (zForX (xR1 (xOp oAdd (xLen (xH (hVar 5))) (xE (sLit (.int 1))))) (setV 11)
  B_law_2 ⟨[.val .N SC, .val .N NN, .val .N TX, .val .N (.lst RD), .val .N DD, .han a, s6, s7, s8, slH x, .han T.length, .un, .un, .un], T ++ [some (.lst ((duL os 0).map HV.pu))]⟩) fun o => ∃ s11 s12, (nOw s11 = true ∧ nOw s12 = true) ∧ o = .nx ⟨[.val .N SC, .val .N NN, .val .N TX, .val .N (.lst RD), .val .N DD, .han a, s6, s7, s8, slH x, .han T.length, s11, s12, .un], T ++ [some (.lst ((duL os (os.length + 1)).map HV.pu))]⟩ := by
  rw [zForX_go (rng_at (x := x) (os := os) (by rw [List.getElem?_append_left (List.getElem?_eq_some_iff.mp hT).1]; exact hT) ho hl)]
  refine forZ_ok (fun j e => ∃ s11 s12, (nOw s11 = true ∧ nOw s12 = true) ∧ e = ⟨[.val .N SC, .val .N NN, .val .N TX, .val .N (.lst RD), .val .N DD, .han a, s6, s7, s8, slH x, .han T.length, s11, s12, .un], T ++ [some (.lst ((duL os j).map HV.pu))]⟩) ⟨.un, .un, ⟨rfl, rfl⟩, rfl⟩ ?_ ?_
  · rintro j r _ hj ⟨s11, s12, hp, rfl⟩
    obtain ⟨hj2, rfl⟩ := iRng_get hj
    refine ⟨⟨[.val .N SC, .val .N NN, .val .N TX, .val .N (.lst RD), .val .N DD, .han a, s6, s7, s8, slH x, .han T.length, .val .N (.int (j : Int)), s12, .un], T ++ [some (.lst ((duL os j).map HV.pu))]⟩, by simp [setV], ?_⟩
    refine (b2_at hm hT ho hl (by omega)).mono ?_
    rintro o ⟨s12, q, rfl⟩
    exact ⟨_, s12, ⟨rfl, q⟩, rfl⟩
  · rintro _ ⟨s11, s12, hp, rfl⟩
    rw [iRng_len]
    exact ⟨s11, s12, hp, rfl⟩
theorem again_at {s11 s12 : Sl} {T' : Tb} {c : Nat} (o6 : nOw s6 = true) (o7 : nOw s7 = true) (o8 : nOw s8 = true) (o11 : nOw s11 = true) (o12 : nOw s12 = true) (e : Ext T T') (hm : Mine T x os) (hT : T'[a]? = some (some (iM os))) (ho : ∀ z ∈ os, 0 ≤ z ∧ z ≤ 255) (hl : os.length ≤ 200) :
    (xLcR (xR1 (xOp oAdd (xLen (xH (hVar 5))) (xE (sLit (.int 1))))) (setV 11) xYes (xCall g_law_outcome (xCons (xH (hVar 9)) (xCons (xE (sVar 11)) xNil))) [11]) ⟨[.val .N SC, .val .N NN, .val .N TX, .val .N (.lst RD), .val .N DD, .han a, s6, s7, s8, slH x, .han c, s11, s12, .un], T'⟩ = some (.val (.ob T'.length) (T' ++ [some (.lst ((duL os (os.length + 1)).map HV.pu))])) := by
  have hf := rng_at (SC := SC) (NN := NN) (TX := TX) (DD := DD) (RD := RD) (s6 := s6) (s7 := s7) (s8 := s8) (x := x) (s11 := s11) (s12 := s12) (c := c) hT ho hl
  have e9 : ∀ y, hVar 9 ⟨[.val .N SC, .val .N NN, .val .N TX, .val .N (.lst RD), .val .N DD, .han a, s6, s7, s8, slH x, .han c, y, s12, .un], T'⟩ = some x := fun y => by cases x <;> rfl
  have hc := lcF_sel (ct := xYes) (fe := (xCall g_law_outcome (xCons (xH (hVar 9)) (xCons (xE (sVar 11)) xNil)))) (s := setV 11) (sl := (wipeE ⟨[.val .N SC, .val .N NN, .val .N TX, .val .N (.lst RD), .val .N DD, .han a, s6, s7, s8, slH x, .han c, s11, s12, .un], T'⟩ [11]).s) (T := T') (p := fun _ => true) (h := fun j => dueD os j) (js := List.range (os.length + 1)) fun j hj => by
    rw [List.mem_range] at hj
    refine ⟨[.val .N SC, .val .N NN, .val .N TX, .val .N (.lst RD), .val .N DD, .han a, s6, s7, s8, slH x, .han c, .val .N (.int (0 + (j : Int))), s12, .un], rfl, rfl, ?_⟩
    have h1 := outcome_at (hm.oct T' e) (show j ≤ os.length by omega)
    have h9 := e9 (.val .N (.int (0 + (j : Int))))
    have hz : (0 : Int) + (j : Int) = (j : Int) := by omega
    rw [hz] at h9 ⊢
    generalize slH x = S9 at *
    generalize dueD os j = dd at *
    exact Ok.eq (by simp [h9, h1])
  have hn : (iRng (os.length + 1) 0).length ≤ lim := by rw [iRng_len]; unfold lim; omega
  have hfree : ownFree [.val .N SC, .val .N NN, .val .N TX, .val .N (.lst RD), .val .N DD, .han a, s6, s7, s8, slH x, .han c, s11, s12, .un] = true := by
    simp only [ownFree_cons, o6, o7, o8, o11, o12]
    have : nOw (slH x) = true := by cases x <;> rfl
    rw [this]
    rfl
  have hr : ((List.range (os.length + 1)).filter fun _ => true) = List.range (os.length + 1) := List.filter_eq_self.mpr fun _ _ => rfl
  rw [hr] at hc
  have hd : (List.range (os.length + 1)).map (fun j => HV.pu (dueD os j)) = (duL os (os.length + 1)).map HV.pu := by
    unfold duL
    rw [List.map_map]
    rfl
  rw [hd] at hc
  exact xLcR_go hfree hf hn hc
theorem last_at {c d : Nat} {s11 s12 : Sl} {T' : Tb} (e : Ext T T') (hm : Mine T x os) (hT : T'[a]? = some (some (iM os))) (hc : T'[c]? = some (some (.lst ((duL os (os.length + 1)).map HV.pu)))) (hd : T'[d]? = some (some (.lst ((duL os (os.length + 1)).map HV.pu)))) :
    Ok ((zRet (xAndV (xOp oEq (xH (hVar 13)) (xH (hVar 10))) (xOp oEq (xList (xH (hVar 9))) (xH (hVar 5))))) ⟨[.val .N SC, .val .N NN, .val .N TX, .val .N (.lst RD), .val .N DD, .han a, s6, s7, s8, slH x, .han c, s11, s12, .han d], T'⟩) fun o => ∃ T2, o = .rt (.pu (.bl true)) T2 := by
  have q1 : opX oEq (.ob d) (.ob c) T' = some (.val (.pu (.bl true)) T') := by
    unfold opX
    rw [td_pus hd, Option.bind_some, td_pus hc, Option.bind_some, eq_self (pg_duL os _) (by decide)]
    rfl
  have q2 := hm.lst T' e
  have q3 : opX oEq (.ob T'.length) (.ob a) (T' ++ [some (iM os)]) = some (.val (.pu (.bl true)) (T' ++ [some (iM os)])) := by
    unfold opX
    rw [td_iM (T := T' ++ [some (iM os)]) (a := T'.length) (os := os) (by simp), Option.bind_some, td_iM (T := T' ++ [some (iM os)]) (a := a) (os := os) (by rw [List.getElem?_append_left (List.getElem?_eq_some_iff.mp hT).1]; exact hT), Option.bind_some, eq_self (pg_ints os) (by decide)]
    rfl
  have h9 : hVar 9 ⟨[.val .N SC, .val .N NN, .val .N TX, .val .N (.lst RD), .val .N DD, .han a, s6, s7, s8, slH x, .han c, s11, s12, .han d], T'⟩ = some x := by cases x <;> rfl
  generalize slH x = S9 at *
  have a1 : (xOp oEq (xH (hVar 13)) (xH (hVar 10))) ⟨[.val .N SC, .val .N NN, .val .N TX, .val .N (.lst RD), .val .N DD, .han a, s6, s7, s8, S9, .han c, s11, s12, .han d], T'⟩ = some (.val (.pu (.bl true)) T') := by
    show bX ((xH (hVar 13)) ⟨[.val .N SC, .val .N NN, .val .N TX, .val .N (.lst RD), .val .N DD, .han a, s6, s7, s8, S9, .han c, s11, s12, .han d], T'⟩) _ = _
    exact q1
  have a0 : (xList (xH (hVar 9))) ⟨[.val .N SC, .val .N NN, .val .N TX, .val .N (.lst RD), .val .N DD, .han a, s6, s7, s8, S9, .han c, s11, s12, .han d], T'⟩ = some (.val (.ob T'.length) (T' ++ [some (iM os)])) := by
    show bX ((xH (hVar 9)) ⟨[.val .N SC, .val .N NN, .val .N TX, .val .N (.lst RD), .val .N DD, .han a, s6, s7, s8, S9, .han c, s11, s12, .han d], T'⟩) _ = _
    have : (xH (hVar 9)) ⟨[.val .N SC, .val .N NN, .val .N TX, .val .N (.lst RD), .val .N DD, .han a, s6, s7, s8, S9, .han c, s11, s12, .han d], T'⟩ = some (.val x T') := by
      show (hVar 9 _).map _ = _
      rw [h9]; rfl
    rw [this]
    exact q2
  have a2 : (xOp oEq (xList (xH (hVar 9))) (xH (hVar 5))) ⟨[.val .N SC, .val .N NN, .val .N TX, .val .N (.lst RD), .val .N DD, .han a, s6, s7, s8, S9, .han c, s11, s12, .han d], T'⟩ = some (.val (.pu (.bl true)) (T' ++ [some (iM os)])) := by
    show bX ((xList (xH (hVar 9))) ⟨[.val .N SC, .val .N NN, .val .N TX, .val .N (.lst RD), .val .N DD, .han a, s6, s7, s8, S9, .han c, s11, s12, .han d], T'⟩) _ = _
    rw [a0]
    exact q3
  refine ⟨.rt (.pu (.bl true)) (T' ++ [some (iM os)]), ?_, _, rfl⟩
  generalize (xOp oEq (xH (hVar 13)) (xH (hVar 10))) = A1 at *
  generalize (xOp oEq (xList (xH (hVar 9))) (xH (hVar 5))) = A2 at *
  exact Ok.eq (by simp [a1, a2])
theorem mid_at (o6 : nOw s6 = true) (o7 : nOw s7 = true) (o8 : nOw s8 = true) (hm : Mine T x os) (hT : T[a]? = some (some (iM os))) (ho : ∀ z ∈ os, 0 ≤ z ∧ z ≤ 255) (hl : os.length ≤ 200) :
    Ok ((zSeq (zSet 10 (xLst xNil)) (zSeq (zForX (xR1 (xOp oAdd (xLen (xH (hVar 5))) (xE (sLit (.int 1))))) (setV 11)
  B_law_2) (zSeq (zSet 13 (xLcR (xR1 (xOp oAdd (xLen (xH (hVar 5))) (xE (sLit (.int 1))))) (setV 11) xYes (xCall g_law_outcome (xCons (xH (hVar 9)) (xCons (xE (sVar 11)) xNil))) [11])) (zRet (xAndV (xOp oEq (xH (hVar 13)) (xH (hVar 10))) (xOp oEq (xList (xH (hVar 9))) (xH (hVar 5)))))))) ⟨[.val .N SC, .val .N NN, .val .N TX, .val .N (.lst RD), .val .N DD, .han a, s6, s7, s8, slH x, .un, .un, .un, .un], T⟩) fun o => ∃ T2, o = .rt (.pu (.bl true)) T2 := by
  refine seq_step (P := fun o => o = .nx ⟨[.val .N SC, .val .N NN, .val .N TX, .val .N (.lst RD), .val .N DD, .han a, s6, s7, s8, slH x, .han T.length, .un, .un, .un], T ++ [some (.lst ((duL os 0).map HV.pu))]⟩) (by generalize slH x = S9; simp [lstK, duL]) ?_
  rintro o rfl
  refine ⟨_, rfl, ?_⟩
  refine seq_step (gath_at hm hT ho hl) ?_
  rintro o ⟨s11, s12, ⟨o11, o12⟩, rfl⟩
  refine ⟨_, rfl, ?_⟩
  have ex : Ext T (T ++ [some (.lst ((duL os (os.length + 1)).map HV.pu))]) := Ext.app _ _
  have hag := again_at (SC := SC) (NN := NN) (TX := TX) (DD := DD) (RD := RD) (c := T.length) o6 o7 o8 o11 o12 ex hm (ex.get hT) ho hl
  have gc : (T ++ [some (.lst ((duL os (os.length + 1)).map HV.pu))])[T.length]? = some (some (.lst ((duL os (os.length + 1)).map HV.pu))) := by simp
  generalize T ++ [some (.lst ((duL os (os.length + 1)).map HV.pu))] = T1 at *
  have ex2 : Ext T1 (T1 ++ [some (.lst ((duL os (os.length + 1)).map HV.pu))]) := Ext.app _ _
  have gd : (T1 ++ [some (Mob.lst ((duL os (os.length + 1)).map HV.pu))])[T1.length]? = some (some (.lst ((duL os (os.length + 1)).map HV.pu))) := by simp
  have hla := last_at (SC := SC) (NN := NN) (TX := TX) (DD := DD) (RD := RD) (s6 := s6) (s7 := s7) (s8 := s8) (s11 := s11) (s12 := s12) (c := T.length) (d := T1.length) (ex.trans ex2) hm ((ex.trans ex2).get hT) (ex2.get gc) gd
  refine seq_step (P := fun o => o = .nx ⟨[.val .N SC, .val .N NN, .val .N TX, .val .N (.lst RD), .val .N DD, .han a, s6, s7, s8, slH x, .han T.length, s11, s12, .han T1.length], T1 ++ [some (.lst ((duL os (os.length + 1)).map HV.pu))]⟩) ?_ ?_
  · generalize slH x = S9 at *
    generalize (xLcR (xR1 (xOp oAdd (xLen (xH (hVar 5))) (xE (sLit (.int 1))))) (setV 11) xYes (xCall g_law_outcome (xCons (xH (hVar 9)) (xCons (xE (sVar 11)) xNil))) [11]) = LC at *
    simp [hag]
  rintro o rfl
  exact ⟨_, rfl, hla⟩
theorem tail_at {r2 : Int} (o6 : nOw s6 = true) (o7 : nOw s7 = true) (o8 : nOw s8 = true) (hT : T[a]? = some (some (iM os))) (ho : ∀ z ∈ os, 0 ≤ z ∧ z ≤ 255) (hl : os.length ≤ 200) (hr : oIx (.N, .lst RD) (.N, .int 2) = some (.N, .int r2)) :
    Ok ((zSeq (zSet 9 (xList (xH (hVar 5)))) (zSeq (zIf (xP (sBl (sOp oEq (sOp oIx (sVar 3) (sLit (.int 2))) (sLit (.int 1)))))
  (zSet 9 (xTupOf (xH (hVar 5))))
  zNx) (zSeq (zSet 10 (xLst xNil)) (zSeq (zForX (xR1 (xOp oAdd (xLen (xH (hVar 5))) (xE (sLit (.int 1))))) (setV 11)
  B_law_2) (zSeq (zSet 13 (xLcR (xR1 (xOp oAdd (xLen (xH (hVar 5))) (xE (sLit (.int 1))))) (setV 11) xYes (xCall g_law_outcome (xCons (xH (hVar 9)) (xCons (xE (sVar 11)) xNil))) [11])) (zRet (xAndV (xOp oEq (xH (hVar 13)) (xH (hVar 10))) (xOp oEq (xList (xH (hVar 9))) (xH (hVar 5)))))))))) ⟨[.val .N SC, .val .N NN, .val .N TX, .val .N (.lst RD), .val .N DD, .han a, s6, s7, s8, .un, .un, .un, .un, .un], T⟩) fun o => ∃ T2, o = .rt (.pu (.bl true)) T2 := by
  have q1 : listK (.ob a) T = some (.val (.ob T.length) (T ++ [some (iM os)])) := (mine_l hT ho hl).lst T (Ext.refl T)
  have ex : Ext T (T ++ [some (iM os)]) := Ext.app _ _
  have gb : (T ++ [some (iM os)])[T.length]? = some (some (iM os)) := by simp
  refine seq_step (P := fun o => o = .nx ⟨[.val .N SC, .val .N NN, .val .N TX, .val .N (.lst RD), .val .N DD, .han a, s6, s7, s8, .han T.length, .un, .un, .un, .un], T ++ [some (iM os)]⟩) (by simp [-listK_eq, q1]) ?_
  rintro o rfl
  refine ⟨_, rfl, ?_⟩
  have hT1 := ex.get hT
  generalize hTT : T ++ [some (iM os)] = T1 at *
  by_cases c : r2 = 1
  · have q2 : tupOfK (.ob a) T1 = some (.val (.pu (.tup (os.map D.int))) T1) := by
      unfold tupOfK
      rw [srcM_ob hT1]
      have hp : pures (os.map fun z => HV.pu (.int z)) = some (os.map D.int) := by have := pures_map (os.map D.int); rw [List.map_map] at this; exact this
      show (match pures (os.map fun z => HV.pu (.int z)) with | some ds => some (XRes.val (HV.pu (.tup ds)) T1) | none => _) = _
      rw [hp]
    refine seq_step (P := fun o => o = .nx ⟨[.val .N SC, .val .N NN, .val .N TX, .val .N (.lst RD), .val .N DD, .han a, s6, s7, s8, .val .N (.tup (os.map D.int)), .un, .un, .un, .un], T1⟩) ?_ ?_
    · generalize os.map D.int = OL at *
      exact zif_t (T := T1) (Ok.eq (by simp [hr, c])) ⟨_, Ok.eq (a := .nx ⟨[.val .N SC, .val .N NN, .val .N TX, .val .N (.lst RD), .val .N DD, .han a, s6, s7, s8, .val .N (.tup OL), .un, .un, .un, .un], T1⟩) (by simp [q2]), rfl⟩
    rintro o rfl
    exact ⟨_, rfl, mid_at (x := .pu (.tup (os.map D.int))) o6 o7 o8 (mine_t ho hl) hT1 ho hl⟩
  · refine seq_step (P := fun o => o = .nx ⟨[.val .N SC, .val .N NN, .val .N TX, .val .N (.lst RD), .val .N DD, .han a, s6, s7, s8, .han T.length, .un, .un, .un, .un], T1⟩) (zif_f (T := T1) (Ok.eq (by simp [hr, c])) ⟨_, rfl, rfl⟩) ?_
    rintro o rfl
    exact ⟨_, rfl, mid_at (x := .ob T.length) o6 o7 o8 (mine_l gb ho hl) hT1 ho hl⟩
end
end Lw
namespace Lw
open PySem L2 Vf
theorem txt_at (c : Int) : ∃ t : Str, atI [D.str "count", D.str "", D.str "kind", D.str "x"] (c % 4) = some (.str t) ∧ t.length ≤ 100 ∧ PyData.strOk t = true := by
  have h : c % 4 = 0 ∨ c % 4 = 1 ∨ c % 4 = 2 ∨ c % 4 = 3 := by omega
  rcases h with h | h | h | h <;> rw [h]
  · exact ⟨"count", atI_nat (xs := [D.str "count", D.str "", D.str "kind", D.str "x"]) (j := 0) rfl, by decide +kernel, by decide +kernel⟩
  · exact ⟨"", atI_nat (xs := [D.str "count", D.str "", D.str "kind", D.str "x"]) (j := 1) rfl, by decide +kernel, by decide +kernel⟩
  · exact ⟨"kind", atI_nat (xs := [D.str "count", D.str "", D.str "kind", D.str "x"]) (j := 2) rfl, by decide +kernel, by decide +kernel⟩
  · exact ⟨"x", atI_nat (xs := [D.str "count", D.str "", D.str "kind", D.str "x"]) (j := 3) rfl, by decide +kernel, by decide +kernel⟩
def pl90 : List Int := (List.range 90).map fun j : Nat => 128 + (0 + (j : Int))
theorem pl90_ok : (∀ z ∈ pl90, 0 ≤ z ∧ z ≤ 255) ∧ pl90.length = 90 := by
  refine ⟨fun z hz => ?_, by unfold pl90; rw [List.length_map, List.length_range]⟩
  obtain ⟨j, hj, rfl⟩ := List.mem_map.mp hz
  rw [List.mem_range] at hj
  omega
section
variable {SC NN TX DD : D} {RD : List D} {s6 s7 s8 : Sl} {l : List Int}
theorem c90_at : (sL (sLc (sR1 (sLit (.int 90))) (setV 6) sYes (sOp oAdd (sLit (.int 128)) (sVar 6)) [6])) ⟨[.val .N SC, .val .N NN, .val .N TX, .val .N (.lst RD), .val .N DD, .han 0, s6, s7, s8, .un, .un, .un, .un, .un], [some (iM l)]⟩ = some (.N, .lst (pl90.map D.int)) := by
  have hi : (sR1 (sLit (.int 90))) ⟨[.val .N SC, .val .N NN, .val .N TX, .val .N (.lst RD), .val .N DD, .han 0, s6, s7, s8, .un, .un, .un, .un, .un], [some (iM l)]⟩ = some ((List.range 90).map fun j : Nat => (Tg.N, D.int ((0 : Int) + (j : Int)))) := by
    show r1K (.N, .int 90) = _
    exact cif_pos ⟨by decide, by decide⟩
  have hc := lcL_mapN (fe := sOp oAdd (sLit (.int 128)) (sVar 6)) (s := setV 6) (env := wipeE ⟨[.val .N SC, .val .N NN, .val .N TX, .val .N (.lst RD), .val .N DD, .han 0, s6, s7, s8, .un, .un, .un, .un, .un], [some (iM l)]⟩ [6]) (g := fun j : Nat => D.int ((0 : Int) + (j : Int))) (h := fun j : Nat => D.int (128 + ((0 : Int) + (j : Int)))) (xs := List.range 90) fun j hj => by
    refine ⟨⟨[.val .N SC, .val .N NN, .val .N TX, .val .N (.lst RD), .val .N DD, .han 0, .val .N (.int ((0 : Int) + (j : Int))), s7, s8, .un, .un, .un, .un, .un], [some (iM l)]⟩, rfl, ?_⟩
    generalize (0 : Int) + (j : Int) = J at *
    simp
  unfold sL sLc
  rw [hi, Option.bind_some, if_pos (by rw [List.length_map, List.length_range]; unfold lim; omega), hc]
  rw [Option.map_some, tagL_Nm, List.map_map]
  unfold pl90
  rw [List.map_map]
  rfl
theorem pre_at {r3 : Int} (ho : ∀ z ∈ l, 0 ≤ z ∧ z ≤ 255) (hl : l.length ≤ 40) (hr : oIx (.N, .lst RD) (.N, .int 3) = some (.N, .int r3)) :
    Ok ((zIf (xP (sBl (sOp oEq (sOp oIx (sVar 3) (sLit (.int 3))) (sLit (.int 0)))))
  (zSet 5 (xCat (xE (sL (sLc (sR1 (sLit (.int 90))) (setV 6) sYes (sOp oAdd (sLit (.int 128)) (sVar 6)) [6]))) (xH (hVar 5))))
  zNx) ⟨[.val .N SC, .val .N NN, .val .N TX, .val .N (.lst RD), .val .N DD, .han 0, s6, s7, s8, .un, .un, .un, .un, .un], [some (iM l)]⟩) fun o => ∃ (a : Nat) (T : Tb) (os : List Int), T[a]? = some (some (iM os)) ∧ (∀ z ∈ os, 0 ≤ z ∧ z ≤ 255) ∧ os.length ≤ 200 ∧ o = .nx ⟨[.val .N SC, .val .N NN, .val .N TX, .val .N (.lst RD), .val .N DD, .han a, s6, s7, s8, .un, .un, .un, .un, .un], T⟩ := by
  by_cases c : r3 = 0
  · have h1 := c90_at (SC := SC) (NN := NN) (TX := TX) (DD := DD) (RD := RD) (s6 := s6) (s7 := s7) (s8 := s8) (l := l)
    have h2 : catK (.pu (.lst (pl90.map D.int))) (.ob 0) [some (iM l)] = some (.val (.ob 1) ([some (iM l)] ++ [some (iM (pl90 ++ l))])) := by
      have e1 : catM [some (iM l)] (.pu (.lst (pl90.map D.int))) = some ((pl90.map D.int).map HV.pu) := rfl
      have e2 : catM [some (iM l)] (.ob 0) = some (l.map fun z => HV.pu (.int z)) := rfl
      unfold catK
      rw [e1, Option.bind_some, e2, Option.bind_some, if_pos (by rw [List.length_map, List.length_map, List.length_map, pl90_ok.2]; unfold lim; omega)]
      unfold iM
      rw [List.map_append, List.map_map]
      rfl
    have fin : Ok ((zSet 5 (xCat (xE (sL (sLc (sR1 (sLit (.int 90))) (setV 6) sYes (sOp oAdd (sLit (.int 128)) (sVar 6)) [6]))) (xH (hVar 5)))) ⟨[.val .N SC, .val .N NN, .val .N TX, .val .N (.lst RD), .val .N DD, .han 0, s6, s7, s8, .un, .un, .un, .un, .un], [some (iM l)]⟩) fun o => o = .nx ⟨[.val .N SC, .val .N NN, .val .N TX, .val .N (.lst RD), .val .N DD, .han 1, s6, s7, s8, .un, .un, .un, .un, .un], ([some (iM l)] ++ [some (iM (pl90 ++ l))])⟩ := by
      generalize (sL (sLc (sR1 (sLit (.int 90))) (setV 6) sYes (sOp oAdd (sLit (.int 128)) (sVar 6)) [6])) = CC at *
      generalize ([some (iM l)] ++ [some (iM (pl90 ++ l))] : Tb) = T2 at *
      generalize ([some (iM l)] : Tb) = T1 at *
      simp [h1, h2]
    refine zif_t (T := [some (iM l)]) (Ok.eq (by simp [hr, c])) (fin.mono ?_)
    rintro o rfl
    refine ⟨1, _, pl90 ++ l, rfl, fun z hz => ?_, by rw [List.length_append, pl90_ok.2]; omega, rfl⟩
    rcases List.mem_append.mp hz with q | q
    · exact pl90_ok.1 z q
    · exact ho z q
  · exact zif_f (T := [some (iM l)]) (Ok.eq (by simp [hr, c])) ⟨_, rfl, 0, _, l, rfl, ho, by omega, rfl⟩
end
theorem law_true : ∀ ns, LawOk ns → Ok (g_law [scrX ns] []) fun r => ∃ T, r = .val (.pu (.bl true)) T := by
  intro ns hn
  unfold g_law
  rw [gFX_at (by rfl), Ok_bind]
  show Ok (F_law ⟨[.val .N (.scr (ns.map D.int)), .un, .un, .un, .un, .un, .un, .un, .un, .un, .un, .un, .un, .un], []⟩) _
  unfold F_law
  obtain ⟨c0, hc0⟩ := cell_at hn .N (i := 0) (by omega) (by omega)
  obtain ⟨c1, hc1⟩ := cell_at hn .N (i := 1) (by omega) (by omega)
  obtain ⟨c2, hc2⟩ := cell_at hn .N (i := 2) (by omega) (by omega)
  obtain ⟨rw, hrw, hro⟩ := row_at0 c0 [41, 3, 2, 8] (by decide) (by decide)
  obtain ⟨rw1, hrw1, hro1⟩ := row_at0 c1 SZ80 sz80_ok.1 sz80_ok.2
  obtain ⟨d0, i0, a0, b0⟩ := hro.ix 0 (by decide)
  obtain ⟨d1, i1, a1, b1⟩ := hro.ix 1 (by decide)
  obtain ⟨d2, i2, a2, b2⟩ := hro.ix 2 (by decide)
  obtain ⟨d3, i3, a3, b3⟩ := hro.ix 3 (by decide)
  have hdg := dg_ok hro1
  have b0 : d0 < 41 := b0
  have i0 : oIx (.N, .lst (rw.map D.int)) (.N, .int 0) = some (.N, .int d0) := i0
  have i1 : oIx (.N, .lst (rw.map D.int)) (.N, .int 1) = some (.N, .int d1) := i1
  have i2 : oIx (.N, .lst (rw.map D.int)) (.N, .int 2) = some (.N, .int d2) := i2
  have i3 : oIx (.N, .lst (rw.map D.int)) (.N, .int 3) = some (.N, .int d3) := i3
  obtain ⟨m, rfl⟩ : ∃ m : Nat, d0 = (m : Int) := ⟨d0.toNat, by omega⟩
  obtain ⟨t, ht, hl, ho⟩ := txt_at c2
  have k1 := fun T => kept1_at (T := T) (n := c2) hl ho
  have k2 := fun T => kept2_at (T := T) (n := c2) hl ho
  have l2 : 2 ≤ lim := by decide
  have l4 : 4 ≤ lim := by decide
  have hrw : g_law_digits [(.N, .int c0), (.N, .lst [.int 41, .int 3, .int 2, .int 8])] = some (.N, .lst (rw.map D.int)) := hrw
  have m40 := mul40
  generalize D.lst (SZ80.map D.int) = SZ at *
  generalize hRD : rw.map D.int = RD at *
  generalize hDD : rw1.map D.int = DD at *
  generalize D.scr (ns.map D.int) = SC at *
  refine seq_step (P := fun o => o = .nx ⟨[.val .N SC, .val .N (.int c2), .un, .un, .un, .un, .un, .un, .un, .un, .un, .un, .un, .un], []⟩) (by simp [hc2]) ?_
  rintro o rfl
  refine ⟨_, rfl, ?_⟩
  refine seq_step (P := fun o => o = .nx ⟨[.val .N SC, .val .N (.int c2), .val .N (.str t), .un, .un, .un, .un, .un, .un, .un, .un, .un, .un, .un], []⟩) (by simp [l4, ht]) ?_
  rintro o rfl
  refine ⟨_, rfl, ?_⟩
  refine seq_step (P := fun o => o = .nx ⟨[.val .N SC, .val .N (.int c2), .val .N (.str t), .un, .un, .un, .un, .un, .un, .un, .un, .un, .un, .un], []⟩) (by simp [k1, k2]) ?_
  rintro o rfl
  refine ⟨_, rfl, ?_⟩
  refine seq_step (P := fun o => o = .nx ⟨[.val .N SC, .val .N (.int c2), .val .N (.str t), .val .N (.lst RD), .un, .un, .un, .un, .un, .un, .un, .un, .un, .un], []⟩) (by simp [hc0, hrw, l4]) ?_
  rintro o rfl
  refine ⟨_, rfl, ?_⟩
  refine seq_step (P := fun o => o = .nx ⟨[.val .N SC, .val .N (.int c2), .val .N (.str t), .val .N (.lst RD), .val .N (.lst DD), .un, .un, .un, .un, .un, .un, .un, .un, .un], []⟩) (by simp [hc1, m40, hrw1, l2, -oMulX_lst]) ?_
  rintro o rfl
  refine ⟨_, rfl, ?_⟩
  refine seq_step (P := fun o => o = .nx ⟨[.val .N SC, .val .N (.int c2), .val .N (.str t), .val .N (.lst RD), .val .N (.lst DD), .han 0, .un, .un, .un, .un, .un, .un, .un, .un], [some (iM [])]⟩) (by simp [lstK, iM]) ?_
  rintro o rfl
  refine ⟨_, rfl, ?_⟩
  refine seq_step (octs_at (by omega) hdg i0 i1) ?_
  rintro o ⟨l, s6, s7, s8, ⟨o6, o7, o8⟩, hlo, hll, rfl⟩
  refine ⟨_, rfl, ?_⟩
  refine seq_step (pre_at hlo hll i3) ?_
  rintro o ⟨a, T, os, hT, hos, hol, rfl⟩
  refine ⟨_, rfl, ?_⟩
  refine (tail_at o6 o7 o8 hT hos hol i2).mono ?_
  rintro o ⟨T2, rfl⟩
  exact ⟨_, rfl, T2, rfl⟩
end Lw
namespace Lw
open PySem PyProof.Rows L2 Vf
def topS (i : Nat) : Stmt := PySem.Challenge.pw_quietbroom_k14_octets_cut.main.body.getD i (.Pass ⟨0, 0, 0, 0⟩)
structure Tx (K : PySem.W.Frag) (w : World) (mg : Str → Option Value) (cl : Str → Option Addr) : Prop where
  nil : True
  n_ValueError : mg "ValueError" = none
  n_bool : mg "bool" = none
  n_int : mg "int" = none
  n_isinstance : mg "isinstance" = none
  n_len : mg "len" = none
  n_list : mg "list" = none
  n_range : mg "range" = none
  n_reversed : mg "reversed" = none
  n_tuple : mg "tuple" = none
  g_GROUP : Gc K mg cl "GROUP" G_GROUP
  g_MOST_OCTETS : Gc K mg cl "MOST_OCTETS" G_MOST_OCTETS
  ie_BadArguments : IsTm K mg cl "BadArguments" XT_BadArguments
  ie_BadCode : IsTm K mg cl "BadCode" XT_BadCode
  ie_BadImage : IsTm K mg cl "BadImage" XT_BadImage
  ie_BadPicture : IsTm K mg cl "BadPicture" XT_BadPicture
  ie_BadProgram : IsTm K mg cl "BadProgram" XT_BadProgram
  ie_BadText : IsTm K mg cl "BadText" XT_BadText
  ie_NoObject : IsTm K mg cl "NoObject" XT_NoObject
  ie_NoRoom : IsTm K mg cl "NoRoom" XT_NoRoom
  ie_QuietError : IsTm K mg cl "QuietError" XT_QuietError
  ie_Refused : IsTm K mg cl "Refused" XT_Refused
  ie_ValueError : IsT K cl (.type "ValueError") XT_ValueError
  it_BadProgram_BadText_Refused_BadArguments_BadPicture_BadImage_NoRoom_NoObject : IsTt K mg cl ["BadProgram", "BadText", "Refused", "BadArguments", "BadPicture", "BadImage", "NoRoom", "NoObject"] XU_BadProgram_BadText_Refused_BadArguments_BadPicture_BadImage_NoRoom_NoObject
  xf_at : XfF K cl XC_at "at"
  xf_line : XfF K cl XC_line "line"
  xf_number : XfF K cl XC_number "number"
  xf_other : XfF K cl XC_other "other"
  xf_part : XfF K cl XC_part "part"
  xf_place : XfF K cl XC_place "place"
  xf_walk : XfF K cl XC_walk "walk"
  xf_why : XfF K cl XC_why "why"
  xf_words : XfF K cl XC_words "words"
  xm_BadCode : XmN K mg cl "BadCode" XK_BadCode
section
variable {P : Program} {w : World} {K : PySem.W.Frag} {mg : Str → Option Value} {base : Heap} {cl : Str → Option Addr}
abbrev s_law_cell : Stmt := topS 19
theorem sc_law_cell : FnScope N_law_cell ["script", "k"] (defScope s_law_cell) := ⟨rfl, rfl, rfl, by decide +kernel, rfl, by decide +kernel, by decide +kernel⟩
theorem ca_law_cell (T : Tx K w mg cl) {f : Addr} {fd : FuncData} (D : Df K mg "_law_cell" s_law_cell f fd) : Ca P w K mg base cl 1 "_law_cell" ["script", "k"] g_law_cell :=
  ca_def D sc_law_cell len_law_cell okt_law_cell (D.fn.binds (fun _ _ _ _ _ _ us hl => match us, hl with | [_, _], _ => rfl)) (kb_of D.fn (fun _ _ _ _ _ _ us hl => match us, hl with | [_, _], _ => rfl)) (fun cdv A outer s H E hr hX =>
  (js_cons (js_if (jt_cmp or_lt (je_var 1) (je_b cr_len T.n_len PySem.boot_len (ja_cons (je_var 0) ja_nil)))
  (js_one (js_ret (je_ix hX (je_var 0) (je_var 1))))
  js_nil) (js_cons (js_set 2 hX je_int) (js_cons (js_for PassesOwn.never hX (ji_it (je_var 0)) (jg_name 3 hX)
  (js_one (js_set 2 hX (je_op or_mod (je_ty cr_int T.n_int (by decide +kernel) (ja_cons (je_op or_add (je_op or_mul (je_var 2) je_int) (je_op or_mod (je_ty cr_int T.n_int (by decide +kernel) (ja_cons (je_var 3) ja_nil)) je_int)) ja_nil)) je_int)))) (js_one (js_ret (je_op or_mod (je_ty cr_int T.n_int (by decide +kernel) (ja_cons (je_op or_mul (je_op or_mul (je_op or_add (je_var 2) je_int) (je_op or_add (je_var 1) je_int)) je_int) ja_nil)) je_int))))))) sem_law_cell
abbrev s_law_digits : Stmt := topS 20
theorem sc_law_digits : FnScope N_law_digits ["cell", "sizes"] (defScope s_law_digits) := ⟨rfl, rfl, rfl, by decide +kernel, rfl, by decide +kernel, by decide +kernel⟩
theorem ca_law_digits (T : Tx K w mg cl) {f : Addr} {fd : FuncData} (D : Df K mg "_law_digits" s_law_digits f fd) : Ca P w K mg base cl 1 "_law_digits" ["cell", "sizes"] g_law_digits :=
  ca_def D sc_law_digits len_law_digits okt_law_digits (D.fn.binds (fun _ _ _ _ _ _ us hl => match us, hl with | [_, _], _ => rfl)) (kb_of D.fn (fun _ _ _ _ _ _ us hl => match us, hl with | [_, _], _ => rfl)) (fun cdv A outer s H E hr hX =>
  (js_cons (js_own 2 hX (jl_d ja_nil)) (js_cons (js_set 3 hX (je_ty cr_int T.n_int (by decide +kernel) (ja_cons (je_var 0) ja_nil))) (js_cons (js_if (jt_cmp or_ge (je_var 3) (je_op or_pow je_int je_int))
  (js_cons (js_set 3 hX (je_op or_sub (je_var 3) (je_op or_pow je_int je_int))) (js_cons (js_for PassesOwn.never hX (ji_it (je_var 1)) (jg_name 4 hX)
  (js_cons (js_app 2 (je_op or_mod (je_ty cr_int T.n_int (by decide +kernel) (ja_cons (je_var 3) ja_nil)) (je_var 4))) (js_one (js_set 3 hX (je_op or_fd (je_ty cr_int T.n_int (by decide +kernel) (ja_cons (je_var 3) ja_nil)) (je_var 4)))))) (js_one (js_ret (je_var 2)))))
  js_nil) (js_cons (js_set 5 hX (je_op or_mod (je_ty cr_int T.n_int (by decide +kernel) (ja_cons (je_var 3) ja_nil)) je_int)) (js_cons (js_for PassesOwn.never hX (ji_range1 gwf_s T.n_range (ja_cons (je_b cr_len T.n_len PySem.boot_len (ja_cons (je_var 1) ja_nil)) ja_nil)) (jg_name 6 hX)
  (js_cons (js_set 5 hX (je_op or_mod (je_ty cr_int T.n_int (by decide +kernel) (ja_cons (je_op or_add (je_op or_add (je_op or_mul (je_var 5) je_int) (je_op or_mul je_int (je_var 6))) je_int) ja_nil)) je_int)) (js_cons (js_set 7 hX (je_op or_mod (je_ty cr_int T.n_int (by decide +kernel) (ja_cons (je_op or_mul (je_var 5) (je_op or_add (je_op or_fd (je_var 5) je_int) je_int)) ja_nil)) je_int)) (js_one (js_app 2 (je_op or_mod (je_op or_fd (je_var 7) je_int) (je_ix hX (je_var 1) (je_var 6)))))))) (js_one (js_ret (je_var 2))))))))) sem_law_digits
abbrev s_law_classes : Stmt := topS 23
theorem sc_law_classes : FnScope N_law_classes ["e"] (defScope s_law_classes) := ⟨rfl, rfl, rfl, by decide +kernel, rfl, by decide +kernel, by decide +kernel⟩
theorem ca_law_classes (T : Tx K w mg cl) {f : Addr} {fd : FuncData} (D : Df K mg "_law_classes" s_law_classes f fd) : Ca P w K mg base cl 1 "_law_classes" ["e"] g_law_classes :=
  ca_def D sc_law_classes len_law_classes okt_law_classes (D.fn.binds (fun _ _ _ _ _ _ us hl => match us, hl with | [_], _ => rfl)) (kb_of D.fn (fun _ _ _ _ _ _ us hl => match us, hl with | [_], _ => rfl)) (fun cdv A outer s H E hr hX =>
  (js_cons (js_set 1 hX (je_l (jl_d (ja_cons (je_exnI T.ie_BadProgram T.n_isinstance (je_var 0)) (ja_cons (je_exnI T.ie_BadText T.n_isinstance (je_var 0)) (ja_cons (je_exnI T.ie_BadCode T.n_isinstance (je_var 0)) (ja_cons (je_exnI T.ie_Refused T.n_isinstance (je_var 0)) ja_nil))))))) (js_cons (js_set 1 hX (je_op or_add (je_var 1) (je_l (jl_d (ja_cons (je_exnI T.ie_BadArguments T.n_isinstance (je_var 0)) (ja_cons (je_exnI T.ie_BadPicture T.n_isinstance (je_var 0)) (ja_cons (je_exnI T.ie_BadImage T.n_isinstance (je_var 0)) ja_nil))))))) (js_one (js_ret (je_op or_add (je_var 1) (je_l (jl_d (ja_cons (je_exnI T.ie_NoRoom T.n_isinstance (je_var 0)) (ja_cons (je_exnI T.ie_NoObject T.n_isinstance (je_var 0)) ja_nil)))))))))) sem_law_classes
abbrev s_law_apart : Stmt := topS 24
theorem sc_law_apart : FnScope N_law_apart ["e", "k"] (defScope s_law_apart) := ⟨rfl, rfl, rfl, by decide +kernel, rfl, by decide +kernel, by decide +kernel⟩
theorem ca_law_apart (T : Tx K w mg cl) (C_law_classes : Ca P w K mg base cl 1 "_law_classes" ["e"] g_law_classes) {f : Addr} {fd : FuncData} (D : Df K mg "_law_apart" s_law_apart f fd) : Ca P w K mg base cl 2 "_law_apart" ["e", "k"] g_law_apart :=
  ca_def D sc_law_apart len_law_apart okt_law_apart (D.fn.binds (fun _ _ _ _ _ _ us hl => match us, hl with | [_, _], _ => rfl)) (kb_of D.fn (fun _ _ _ _ _ _ us hl => match us, hl with | [_, _], _ => rfl)) (fun cdv A outer s H E hr hX =>
  (js_cons (js_if (jt_w (jw_or (jt_not (jt_v (je_exnI T.ie_QuietError T.n_isinstance (je_var 0)))) (jw_or1 (jt_not (jt_v (je_exnB T.ie_ValueError T.n_isinstance T.n_ValueError (by decide +kernel) (je_var 0)))))))
  (js_one (js_ret je_bl))
  js_nil) (js_one (js_ret (je_cmp (or_eq hX) (jc C_law_classes hr (ja_cons (je_var 0) ja_nil)) (je_l (jl_lc [("j", 2)] hX (ji_range1 gwf_r T.n_range (ja_cons je_int ja_nil)) (by rfl) (fun _ _ _ _ _ => (jg_name 2 (XS.blk hX))) (fun _ _ _ _ _ => jts_nil) (fun _ _ _ _ _ => (je_cmp (or_eq (XS.blk hX)) (je_var 2) (je_var 1)))))))))) sem_law_apart
abbrev s_BadProgram_init : Stmt := inClass (topS 4) 0
theorem sc_BadProgram_init : FnScope N_BadProgram_init ["self", "part", "number", "place", "why"] (defScope s_BadProgram_init) := ⟨rfl, rfl, rfl, by decide +kernel, rfl, by decide +kernel, by decide +kernel⟩
theorem fn_BadProgram_init (T : Tx K w mg cl) {C : Addr} (nf_part : PySem.W.findIn K (.ref C) "part" = some none) (nf_number : PySem.W.findIn K (.ref C) "number" = some none) (nf_place : PySem.W.findIn K (.ref C) "place" = some none) (nf_why : PySem.W.findIn K (.ref C) "why" = some none) {f : Addr} {fd : FuncData} (F : Fun K "__init__" "BadProgram.__init__" s_BadProgram_init f fd) : FnOk P w K mg base (L2N.CX P w) 1 f fd ["self", "part", "number", "place", "why"] (spI ⟨K, cl⟩ C g_BadProgram_init) :=
  ok_ini F sc_BadProgram_init gIni_len (fun cdv A outer s H E hr hX =>
  (ji_cons (je_var 1) (ji_cons (je_var 2) (ji_cons (je_var 3) (ji_cons (je_var 4) ji_nil))))) (by decide) (noF_cons nf_part (noF_cons nf_number (noF_cons nf_place (noF_cons nf_why noF_nil)))) gIni_sem
abbrev s_BadText_init : Stmt := inClass (topS 5) 0
theorem sc_BadText_init : FnScope N_BadText_init ["self", "line", "why"] (defScope s_BadText_init) := ⟨rfl, rfl, rfl, by decide +kernel, rfl, by decide +kernel, by decide +kernel⟩
theorem fn_BadText_init (T : Tx K w mg cl) {C : Addr} (nf_line : PySem.W.findIn K (.ref C) "line" = some none) (nf_why : PySem.W.findIn K (.ref C) "why" = some none) {f : Addr} {fd : FuncData} (F : Fun K "__init__" "BadText.__init__" s_BadText_init f fd) : FnOk P w K mg base (L2N.CX P w) 1 f fd ["self", "line", "why"] (spI ⟨K, cl⟩ C g_BadText_init) :=
  ok_ini F sc_BadText_init gIni_len (fun cdv A outer s H E hr hX =>
  (ji_cons (je_var 1) (ji_cons (je_var 2) ji_nil))) (by decide) (noF_cons nf_line (noF_cons nf_why noF_nil)) gIni_sem
abbrev s_BadCode_init : Stmt := inClass (topS 6) 0
theorem sc_BadCode_init : FnScope N_BadCode_init ["self", "at"] (defScope s_BadCode_init) := ⟨rfl, rfl, rfl, by decide +kernel, rfl, by decide +kernel, by decide +kernel⟩
theorem fn_BadCode_init (T : Tx K w mg cl) {C : Addr} (nf_at : PySem.W.findIn K (.ref C) "at" = some none) {f : Addr} {fd : FuncData} (F : Fun K "__init__" "BadCode.__init__" s_BadCode_init f fd) : FnOk P w K mg base (L2N.CX P w) 1 f fd ["self", "at"] (spI ⟨K, cl⟩ C g_BadCode_init) :=
  ok_ini F sc_BadCode_init gIni_len (fun cdv A outer s H E hr hX =>
  (ji_cons (je_var 1) ji_nil)) (by decide) (noF_cons nf_at noF_nil) gIni_sem
abbrev s_frozen : Stmt := topS 1
theorem sc_frozen : FnScope N_frozen ["value"] (defScope s_frozen) := ⟨rfl, rfl, rfl, by decide +kernel, rfl, by decide +kernel, by decide +kernel⟩
theorem ca_frozen_step (T : Tx K w mg cl) {k : Nat} {gg : List TD → Option TD} {f : Addr} {fd : FuncData} (D : Df K mg "frozen" s_frozen f fd) (CC : Ca P w K mg base cl k "frozen" ["value"] gg) : Ca P w K mg base cl (k + 1) "frozen" ["value"] (gF 1 N_frozen.length (F_frozen gg)) :=
  ca_def D sc_frozen gF_len gF_ok (D.fn.binds (fun _ _ _ _ _ _ us hl => match us, hl with | [_], _ => rfl)) (kb_of D.fn (fun _ _ _ _ _ _ us hl => match us, hl with | [_], _ => rfl)) (fun cdv A outer s H E hr hX =>
  (js_cons (js_if (jt_v (je_isi2 (T1 := "list") (T2 := "tuple") (je_var 0) T.n_isinstance T.n_list T.n_tuple (by decide +kernel) (by decide +kernel)))
  (js_one (js_ret (je_ty cr_tup T.n_tuple (by decide +kernel) (ja_cons (je_l (jl_lc [("part", 1)] hX (jir_it (je_var 0)) (by rfl) (fun _ _ _ _ _ => (jg_name 1 (XS.blk hX))) (fun _ _ _ _ _ => jts_nil) (fun _ _ _ _ _ => (jc CC hr (ja_cons (je_var 1) ja_nil) (hkj := Nat.le_refl _))))) ja_nil))))
  js_nil) (js_one (js_ret (je_var 0))))) gF_sem
theorem ca_frozen (T : Tx K w mg cl) {f : Addr} {fd : FuncData} (D : Df K mg "frozen" s_frozen f fd) : Ca P w K mg base cl 9 "frozen" ["value"] g_frozen := by
  have h : ∀ n, Ca P w K mg base cl (n + 0) "frozen" ["value"] (gN_frozen n) := by
    intro n
    induction n with
    | zero => exact (ca_none D (D.fn.binds (fun _ _ _ _ _ _ us hl => match us, hl with | [_], _ => rfl)) (kb_of D.fn (fun _ _ _ _ _ _ us hl => match us, hl with | [_], _ => rfl))).mono (Nat.zero_le _)
    | succ n ih => exact (ca_frozen_step (k := n + 0) T D ih).mono (by omega)
  exact h 9
abbrev s_Refused_init : Stmt := inClass (topS 7) 0
theorem sc_Refused_init : FnScope N_Refused_init ["self", "number", "why", "walk", "other"] (defScope s_Refused_init) := ⟨rfl, rfl, rfl, by decide +kernel, rfl, by decide +kernel, by decide +kernel⟩
theorem fn_Refused_init (T : Tx K w mg cl) (C_frozen : Ca P w K mg base cl 9 "frozen" ["value"] g_frozen) {C : Addr} (nf_number : PySem.W.findIn K (.ref C) "number" = some none) (nf_why : PySem.W.findIn K (.ref C) "why" = some none) (nf_walk : PySem.W.findIn K (.ref C) "walk" = some none) (nf_other : PySem.W.findIn K (.ref C) "other" = some none) {f : Addr} {fd : FuncData} (F : Fun K "__init__" "Refused.__init__" s_Refused_init f fd) : FnOk P w K mg base (L2N.CX P w) 10 f fd ["self", "number", "why", "walk", "other"] (spI ⟨K, cl⟩ C g_Refused_init) :=
  ok_ini F sc_Refused_init gIni_len (fun cdv A outer s H E hr hX =>
  (ji_cons (je_var 1) (ji_cons (je_var 2) (ji_cons (jc C_frozen hr (ja_cons (je_var 3) ja_nil)) (ji_cons (jc C_frozen hr (ja_cons (je_var 4) ja_nil)) ji_nil))))) (by decide) (noF_cons nf_number (noF_cons nf_why (noF_cons nf_walk (noF_cons nf_other noF_nil)))) gIni_sem
abbrev s_law_errors_kept : Stmt := topS 25
theorem sc_law_errors_kept : FnScope N_law_errors_kept ["n", "text"] (defScope s_law_errors_kept) := ⟨rfl, rfl, rfl, by decide +kernel, rfl, by decide +kernel, by decide +kernel⟩
theorem fn_law_errors_kept (T : Tx K w mg cl) (C_law_apart : Ca P w K mg base cl 2 "_law_apart" ["e", "k"] g_law_apart) (RXK_BadProgram_part_number_place_why : RaXK P w K mg base cl 1 "BadProgram" ["self", "part", "number", "place", "why"] ["part", "number", "place", "why"] [0, 1, 2, 3] g_BadProgram_init) (RXK_BadText_line_why : RaXK P w K mg base cl 1 "BadText" ["self", "line", "why"] ["line", "why"] [0, 1] g_BadText_init) (RXK_BadCode_at : RaXK P w K mg base cl 1 "BadCode" ["self", "at"] ["at"] [0] g_BadCode_init) (RXK_Refused_number_why_walk_other : RaXK P w K mg base cl 10 "Refused" ["self", "number", "why", "walk", "other"] ["number", "why", "walk", "other"] [0, 1, 2, 3] g_Refused_init) {f : Addr} {fd : FuncData} (D : Df K mg "_law_errors_kept" s_law_errors_kept f fd) : FnOk P w K mg base (L2N.CX P w) 12 f fd ["n", "text"] (spX ⟨K, cl⟩ g_law_errors_kept) :=
  ok_defX D.fn sc_law_errors_kept gFX_len (fun cdv A outer s H E hr hX tk hp =>
  (jz_cons (jz_set 2 hX (jx_makeE RXK_BadProgram_part_number_place_why hr (jxk_cons (jx_e (je_var 1)) (jxk_cons (jx_e (je_var 0)) (jxk_cons (jx_e (je_op or_sub (je_var 0) je_int)) (jxk_cons (jx_e (je_op or_add (je_var 1) je_str)) jxk_nil)))))) (jz_cons (jz_set 3 hX (jx_makeE RXK_BadText_line_why hr (jxk_cons (jx_e (je_var 0)) (jxk_cons (jx_e (je_var 1)) jxk_nil)))) (jz_cons (jz_set 4 hX (jx_makeE RXK_BadCode_at hr (jxk_cons (jx_e (je_var 0)) jxk_nil))) (jz_cons (jz_set 5 hX (jx_makeE RXK_Refused_number_why_walk_other hr (jxk_cons (jx_e (je_var 0)) (jxk_cons (jx_e (je_var 1)) (jxk_cons (jx_e (je_tup (ja_cons je_int (ja_cons (je_var 0) ja_nil)))) (jxk_cons (jx_e (je_tup (ja_cons (je_var 0) ja_nil))) jxk_nil)))))) (jz_cons (jz_if (jxt_p (jt_w (jw_or (jt_cmp (or_ne hX) (je_tup (ja_cons (je_exnF T.xf_part (je_var 2)) (ja_cons (je_exnF T.xf_number (je_var 2)) (ja_cons (je_exnF T.xf_place (je_var 2)) (ja_cons (je_exnF T.xf_why (je_var 2)) ja_nil))))) (je_tup (ja_cons (je_var 1) (ja_cons (je_var 0) (ja_cons (je_op or_sub (je_var 0) je_int) (ja_cons (je_op or_add (je_var 1) je_str) ja_nil)))))) (jw_or1 (jt_cmp (or_ne hX) (je_tup (ja_cons (je_exnF T.xf_line (je_var 3)) (ja_cons (je_exnF T.xf_why (je_var 3)) ja_nil))) (je_tup (ja_cons (je_var 0) (ja_cons (je_var 1) ja_nil))))))))
  (jz_one (jz_ret (jx_e je_bl)))
  jz_nil) (jz_cons (jz_if (jxt_p (jt_w (jw_or (jt_cmp (or_ne hX) (je_exnF T.xf_at (je_var 4)) (je_var 0)) (jw_or1 (jt_cmp (or_ne hX) (je_tup (ja_cons (je_exnF T.xf_number (je_var 5)) (ja_cons (je_exnF T.xf_why (je_var 5)) (ja_cons (je_exnF T.xf_walk (je_var 5)) (ja_cons (je_exnF T.xf_other (je_var 5)) ja_nil))))) (je_tup (ja_cons (je_var 0) (ja_cons (je_var 1) (ja_cons (je_tup (ja_cons je_int (ja_cons (je_var 0) ja_nil))) (ja_cons (je_tup (ja_cons (je_var 0) ja_nil)) ja_nil))))))))))
  (jz_one (jz_ret (jx_e je_bl)))
  jz_nil) (jz_one (jz_ret (jx_e (je_and (jc C_law_apart hr (ja_cons (je_var 2) (ja_cons je_int ja_nil))) (je_and (jc C_law_apart hr (ja_cons (je_var 3) (ja_cons je_int ja_nil))) (je_and (jc C_law_apart hr (ja_cons (je_var 4) (ja_cons je_int ja_nil))) (je_and1 (jc C_law_apart hr (ja_cons (je_var 5) (ja_cons je_int ja_nil))))))))))))))))) gFX_sem
theorem ca_law_errors_kept (T : Tx K w mg cl) (C_law_apart : Ca P w K mg base cl 2 "_law_apart" ["e", "k"] g_law_apart) (RXK_BadProgram_part_number_place_why : RaXK P w K mg base cl 1 "BadProgram" ["self", "part", "number", "place", "why"] ["part", "number", "place", "why"] [0, 1, 2, 3] g_BadProgram_init) (RXK_BadText_line_why : RaXK P w K mg base cl 1 "BadText" ["self", "line", "why"] ["line", "why"] [0, 1] g_BadText_init) (RXK_BadCode_at : RaXK P w K mg base cl 1 "BadCode" ["self", "at"] ["at"] [0] g_BadCode_init) (RXK_Refused_number_why_walk_other : RaXK P w K mg base cl 10 "Refused" ["self", "number", "why", "walk", "other"] ["number", "why", "walk", "other"] [0, 1, 2, 3] g_Refused_init) {f : Addr} {fd : FuncData} (D : Df K mg "_law_errors_kept" s_law_errors_kept f fd) : CaX P w K mg base cl 12 "_law_errors_kept" ["n", "text"] g_law_errors_kept :=
  ⟨⟨f, fd, fn_law_errors_kept T C_law_apart RXK_BadProgram_part_number_place_why RXK_BadText_line_why RXK_BadCode_at RXK_Refused_number_why_walk_other D, D.gm, D.fn.kp, D.fn.binds (fun _ _ _ _ _ _ us hl => match us, hl with | [_, _], _ => rfl)⟩⟩
abbrev s_BadPicture_init : Stmt := inClass (topS 9) 0
theorem sc_BadPicture_init : FnScope N_BadPicture_init ["self", "part", "number", "why"] (defScope s_BadPicture_init) := ⟨rfl, rfl, rfl, by decide +kernel, rfl, by decide +kernel, by decide +kernel⟩
theorem fn_BadPicture_init (T : Tx K w mg cl) {C : Addr} (nf_part : PySem.W.findIn K (.ref C) "part" = some none) (nf_number : PySem.W.findIn K (.ref C) "number" = some none) (nf_why : PySem.W.findIn K (.ref C) "why" = some none) {f : Addr} {fd : FuncData} (F : Fun K "__init__" "BadPicture.__init__" s_BadPicture_init f fd) : FnOk P w K mg base (L2N.CX P w) 1 f fd ["self", "part", "number", "why"] (spI ⟨K, cl⟩ C g_BadPicture_init) :=
  ok_ini F sc_BadPicture_init gIni_len (fun cdv A outer s H E hr hX =>
  (ji_cons (je_var 1) (ji_cons (je_var 2) (ji_cons (je_var 3) ji_nil)))) (by decide) (noF_cons nf_part (noF_cons nf_number (noF_cons nf_why noF_nil))) gIni_sem
abbrev s_BadImage_init : Stmt := inClass (topS 10) 0
theorem sc_BadImage_init : FnScope N_BadImage_init ["self", "line", "why"] (defScope s_BadImage_init) := ⟨rfl, rfl, rfl, by decide +kernel, rfl, by decide +kernel, by decide +kernel⟩
theorem fn_BadImage_init (T : Tx K w mg cl) {C : Addr} (nf_line : PySem.W.findIn K (.ref C) "line" = some none) (nf_why : PySem.W.findIn K (.ref C) "why" = some none) {f : Addr} {fd : FuncData} (F : Fun K "__init__" "BadImage.__init__" s_BadImage_init f fd) : FnOk P w K mg base (L2N.CX P w) 1 f fd ["self", "line", "why"] (spI ⟨K, cl⟩ C g_BadImage_init) :=
  ok_ini F sc_BadImage_init gIni_len (fun cdv A outer s H E hr hX =>
  (ji_cons (je_var 1) (ji_cons (je_var 2) ji_nil))) (by decide) (noF_cons nf_line (noF_cons nf_why noF_nil)) gIni_sem
abbrev s_NoRoom_init : Stmt := inClass (topS 11) 0
theorem sc_NoRoom_init : FnScope N_NoRoom_init ["self", "words"] (defScope s_NoRoom_init) := ⟨rfl, rfl, rfl, by decide +kernel, rfl, by decide +kernel, by decide +kernel⟩
theorem fn_NoRoom_init (T : Tx K w mg cl) {C : Addr} (nf_words : PySem.W.findIn K (.ref C) "words" = some none) {f : Addr} {fd : FuncData} (F : Fun K "__init__" "NoRoom.__init__" s_NoRoom_init f fd) : FnOk P w K mg base (L2N.CX P w) 1 f fd ["self", "words"] (spI ⟨K, cl⟩ C g_NoRoom_init) :=
  ok_ini F sc_NoRoom_init gIni_len (fun cdv A outer s H E hr hX =>
  (ji_cons (je_var 1) ji_nil)) (by decide) (noF_cons nf_words noF_nil) gIni_sem
abbrev s_NoObject_init : Stmt := inClass (topS 12) 0
theorem sc_NoObject_init : FnScope N_NoObject_init ["self", "number"] (defScope s_NoObject_init) := ⟨rfl, rfl, rfl, by decide +kernel, rfl, by decide +kernel, by decide +kernel⟩
theorem fn_NoObject_init (T : Tx K w mg cl) {C : Addr} (nf_number : PySem.W.findIn K (.ref C) "number" = some none) {f : Addr} {fd : FuncData} (F : Fun K "__init__" "NoObject.__init__" s_NoObject_init f fd) : FnOk P w K mg base (L2N.CX P w) 1 f fd ["self", "number"] (spI ⟨K, cl⟩ C g_NoObject_init) :=
  ok_ini F sc_NoObject_init gIni_len (fun cdv A outer s H E hr hX =>
  (ji_cons (je_var 1) ji_nil)) (by decide) (noF_cons nf_number noF_nil) gIni_sem
abbrev s_law_more_errors_kept : Stmt := topS 26
theorem sc_law_more_errors_kept : FnScope N_law_more_errors_kept ["n", "text"] (defScope s_law_more_errors_kept) := ⟨rfl, rfl, rfl, by decide +kernel, rfl, by decide +kernel, by decide +kernel⟩
theorem fn_law_more_errors_kept (T : Tx K w mg cl) (C_law_apart : Ca P w K mg base cl 2 "_law_apart" ["e", "k"] g_law_apart) (RX0_BadArguments : RaX0 K mg cl "BadArguments") (RXK_BadPicture_part_number_why : RaXK P w K mg base cl 1 "BadPicture" ["self", "part", "number", "why"] ["part", "number", "why"] [0, 1, 2] g_BadPicture_init) (RXK_BadImage_line_why : RaXK P w K mg base cl 1 "BadImage" ["self", "line", "why"] ["line", "why"] [0, 1] g_BadImage_init) (RXK_NoRoom_words : RaXK P w K mg base cl 1 "NoRoom" ["self", "words"] ["words"] [0] g_NoRoom_init) (RXK_NoObject_number : RaXK P w K mg base cl 1 "NoObject" ["self", "number"] ["number"] [0] g_NoObject_init) {f : Addr} {fd : FuncData} (D : Df K mg "_law_more_errors_kept" s_law_more_errors_kept f fd) : FnOk P w K mg base (L2N.CX P w) 3 f fd ["n", "text"] (spX ⟨K, cl⟩ g_law_more_errors_kept) :=
  ok_defX D.fn sc_law_more_errors_kept gFX_len (fun cdv A outer s H E hr hX tk hp =>
  (jz_cons (jz_set 2 hX (jx_makeE0 RX0_BadArguments)) (jz_cons (jz_set 3 hX (jx_makeE RXK_BadPicture_part_number_why hr (jxk_cons (jx_e (je_var 1)) (jxk_cons (jx_e (je_var 0)) (jxk_cons (jx_e (je_op or_add (je_var 1) je_str)) jxk_nil))))) (jz_cons (jz_set 4 hX (jx_makeE RXK_BadImage_line_why hr (jxk_cons (jx_e (je_var 0)) (jxk_cons (jx_e (je_var 1)) jxk_nil)))) (jz_cons (jz_set 5 hX (jx_makeE RXK_NoRoom_words hr (jxk_cons (jx_e (je_var 0)) jxk_nil))) (jz_cons (jz_set 6 hX (jx_makeE RXK_NoObject_number hr (jxk_cons (jx_e (je_var 0)) jxk_nil))) (jz_cons (jz_if (jxt_p (jt_w (jw_or (jt_cmp (or_ne hX) (je_tup (ja_cons (je_exnF T.xf_part (je_var 3)) (ja_cons (je_exnF T.xf_number (je_var 3)) (ja_cons (je_exnF T.xf_why (je_var 3)) ja_nil)))) (je_tup (ja_cons (je_var 1) (ja_cons (je_var 0) (ja_cons (je_op or_add (je_var 1) je_str) ja_nil))))) (jw_or1 (jt_cmp (or_ne hX) (je_tup (ja_cons (je_exnF T.xf_line (je_var 4)) (ja_cons (je_exnF T.xf_why (je_var 4)) ja_nil))) (je_tup (ja_cons (je_var 0) (ja_cons (je_var 1) ja_nil))))))))
  (jz_one (jz_ret (jx_e je_bl)))
  jz_nil) (jz_cons (jz_if (jxt_p (jt_w (jw_or (jt_cmp (or_ne hX) (je_exnF T.xf_words (je_var 5)) (je_var 0)) (jw_or (jt_cmp (or_ne hX) (je_exnF T.xf_number (je_var 6)) (je_var 0)) (jw_or (jt_not (jt_v (jc C_law_apart hr (ja_cons (je_var 2) (ja_cons je_int ja_nil))))) (jw_or1 (jt_not (jt_v (jc C_law_apart hr (ja_cons (je_var 3) (ja_cons je_int ja_nil)))))))))))
  (jz_one (jz_ret (jx_e je_bl)))
  jz_nil) (jz_one (jz_ret (jx_e (je_and (jc C_law_apart hr (ja_cons (je_var 4) (ja_cons je_int ja_nil))) (je_and (jc C_law_apart hr (ja_cons (je_var 5) (ja_cons je_int ja_nil))) (je_and1 (jc C_law_apart hr (ja_cons (je_var 6) (ja_cons je_int ja_nil))))))))))))))))) gFX_sem
theorem ca_law_more_errors_kept (T : Tx K w mg cl) (C_law_apart : Ca P w K mg base cl 2 "_law_apart" ["e", "k"] g_law_apart) (RX0_BadArguments : RaX0 K mg cl "BadArguments") (RXK_BadPicture_part_number_why : RaXK P w K mg base cl 1 "BadPicture" ["self", "part", "number", "why"] ["part", "number", "why"] [0, 1, 2] g_BadPicture_init) (RXK_BadImage_line_why : RaXK P w K mg base cl 1 "BadImage" ["self", "line", "why"] ["line", "why"] [0, 1] g_BadImage_init) (RXK_NoRoom_words : RaXK P w K mg base cl 1 "NoRoom" ["self", "words"] ["words"] [0] g_NoRoom_init) (RXK_NoObject_number : RaXK P w K mg base cl 1 "NoObject" ["self", "number"] ["number"] [0] g_NoObject_init) {f : Addr} {fd : FuncData} (D : Df K mg "_law_more_errors_kept" s_law_more_errors_kept f fd) : CaX P w K mg base cl 3 "_law_more_errors_kept" ["n", "text"] g_law_more_errors_kept :=
  ⟨⟨f, fd, fn_law_more_errors_kept T C_law_apart RX0_BadArguments RXK_BadPicture_part_number_why RXK_BadImage_line_why RXK_NoRoom_words RXK_NoObject_number D, D.gm, D.fn.kp, D.fn.binds (fun _ _ _ _ _ _ us hl => match us, hl with | [_, _], _ => rfl)⟩⟩
abbrev s_law_whole : Stmt := topS 18
theorem sc_law_whole : FnScope N_law_whole ["value"] (defScope s_law_whole) := ⟨rfl, rfl, rfl, by decide +kernel, rfl, by decide +kernel, by decide +kernel⟩
theorem ca_law_whole (T : Tx K w mg cl) {f : Addr} {fd : FuncData} (D : Df K mg "_law_whole" s_law_whole f fd) : Ca P w K mg base cl 1 "_law_whole" ["value"] g_law_whole :=
  ca_def D sc_law_whole len_law_whole okt_law_whole (D.fn.binds (fun _ _ _ _ _ _ us hl => match us, hl with | [_], _ => rfl)) (kb_of D.fn (fun _ _ _ _ _ _ us hl => match us, hl with | [_], _ => rfl)) (fun cdv A outer s H E hr hX =>
  (js_one (js_ret (je_and (je_isi (T := "int") (je_var 0) T.n_isinstance T.n_int (by decide +kernel)) (je_and1 (je_not (je_isi (T := "bool") (je_var 0) T.n_isinstance T.n_bool (by decide +kernel)))))))) sem_law_whole
abbrev s_decode_number : Stmt := topS 16
theorem sc_decode_number : FnScope N_decode_number ["octets", "at"] (defScope s_decode_number) := ⟨rfl, rfl, rfl, by decide +kernel, rfl, by decide +kernel, by decide +kernel⟩
theorem fn_decode_number (T : Tx K w mg cl) (RA_BadCode : RaX P w K mg base cl 1 "BadCode" ["self", "at"] g_BadCode_init) {f : Addr} {fd : FuncData} (D : Df K mg "decode_number" s_decode_number f fd) : FnOk P w K mg base (L2N.CX P w) 3 f fd ["octets", "at"] (spX ⟨K, cl⟩ g_decode_number) :=
  ok_defX D.fn sc_decode_number gFX_len (fun cdv A outer s H E hr hX tk hp =>
  (jz_cons (jz_set 2 hX (jx_e (je_var 1))) (jz_cons (jz_while hp (jxt_w (jxw_and (jxt_cmp or_lt (jx_e (je_var 2)) (jx_len T.n_len (jx_h (jh_var 0)))) (jxw_and1 (jxt_cmp or_ge (jx_ix hX (jx_h (jh_var 0)) (jx_e (je_var 2))) (jx_e (je_gl T.g_GROUP))))))
  (jz_one (jz_lift (js_augI ip_add 2 hX je_int)))) (jz_cons (jz_if (jxt_cmp or_ge (jx_e (je_var 2)) (jx_len T.n_len (jx_h (jh_var 0))))
  (jz_one (jz_raiseX RA_BadCode hX tk hr (jxa_cons (jx_len T.n_len (jx_h (jh_var 0))) jxa_nil)))
  jz_nil) (jz_cons (jz_if (jxt_w (jxw_or (jxt_p (jt_cmp or_ge (je_op or_sub (je_var 2) (je_var 1)) (je_gl T.g_MOST_OCTETS))) (jxw_or1 (jxt_w (jxw_and (jxt_p (jt_cmp or_gt (je_var 2) (je_var 1))) (jxw_and1 (jxt_cmp (or_eq hX) (jx_ix hX (jx_h (jh_var 0)) (jx_e (je_var 2))) (jx_e je_int))))))))
  (jz_one (jz_raiseX RA_BadCode hX tk hr (jxa_cons (jx_e (je_var 1)) jxa_nil)))
  jz_nil) (jz_cons (jz_set 3 hX (jx_e je_int)) (jz_cons (jz_forX hp hX (jix_rev T.n_reversed (jx_slP (jx_h (jh_var 0)) (jo_some (je_var 1)) (jo_some (je_op or_add (je_var 2) je_int)))) (jg_name 4 hX)
  (jz_one (jz_set 3 hX (jx_op or_add (jx_op or_mulX (jx_h (jh_var 3)) (jx_e (je_gl T.g_GROUP))) (jx_op or_mod (jx_h (jh_var 4)) (jx_e (je_gl T.g_GROUP))))))) (jz_one (jz_ret (jx_tup (jxa_cons (jx_h (jh_var 3)) (jxa_cons (jx_e (je_op or_add (je_var 2) je_int)) jxa_nil)))))))))))) gFX_sem
theorem ca_decode_number (T : Tx K w mg cl) (RA_BadCode : RaX P w K mg base cl 1 "BadCode" ["self", "at"] g_BadCode_init) {f : Addr} {fd : FuncData} (D : Df K mg "decode_number" s_decode_number f fd) : CaX P w K mg base cl 3 "decode_number" ["octets", "at"] g_decode_number :=
  ⟨⟨f, fd, fn_decode_number T RA_BadCode D, D.gm, D.fn.kp, D.fn.binds (fun _ _ _ _ _ _ us hl => match us, hl with | [_, _], _ => rfl)⟩⟩
abbrev s_law_outcome : Stmt := topS 22
theorem sc_law_outcome : FnScope N_law_outcome ["octets", "spot"] (defScope s_law_outcome) := ⟨rfl, rfl, rfl, by decide +kernel, rfl, by decide +kernel, by decide +kernel⟩
theorem fn_law_outcome (T : Tx K w mg cl) (C_law_whole : Ca P w K mg base cl 1 "_law_whole" ["value"] g_law_whole) (C_decode_number : CaX P w K mg base cl 3 "decode_number" ["octets", "at"] g_decode_number) (S_law_whole : CaS P w K mg base cl 1 "_law_whole" ["value"] g_law_whole) {f : Addr} {fd : FuncData} (D : Df K mg "_law_outcome" s_law_outcome f fd) : FnOk P w K mg base (L2N.CX P w) 4 f fd ["octets", "spot"] (spX ⟨K, cl⟩ g_law_outcome) :=
  ok_defX D.fn sc_law_outcome gFX_len (fun cdv A outer s H E hr hX tk hp =>
  (jz_cons (jz_tryM T.xm_BadCode hX tk hr rfl rfl (fun W2 pn xe tk hX hr =>
  (jz_one (jz_set 2 hX (jx_call C_decode_number tk hr (jxa_cons (jx_h (jh_var 0)) (jxa_cons (jx_e (je_var 1)) jxa_nil)))))) (fun a dx C oe pn hz hf hX hc hr =>
  (jz_cons (jz_if (jxt_p (jt_w (jw_or (jt_not (jt_v (jcH S_law_whole hr hc (ja_cons (je_exF hz hf T.xf_at (i := 3)) ja_nil)))) (jw_or (jt_not (jt_v (je_isM hz hf T.ie_QuietError T.n_isinstance (i := 3)))) (jw_or1 (jt_not (jt_v (je_isEb (tv := .none) hz hf T.ie_ValueError T.n_ValueError (by decide +kernel) T.n_isinstance (i := 3)))))))))
  (jz_one (jz_ret (jx_e (je_l (jl_d ja_nil)))))
  jz_nil) (jz_cons (jz_if (jxt_p (jt_v (je_isMt hz hf T.it_BadProgram_BadText_Refused_BadArguments_BadPicture_BadImage_NoRoom_NoObject (by decide) T.n_isinstance (pan_cons (pan_cons (pan_cons (pan_cons (pan_cons (pan_cons (pan_cons (pan_cons pan_nil)))))))) (i := 3))))
  (jz_one (jz_ret (jx_e (je_l (jl_d ja_nil)))))
  jz_nil) (jz_one (jz_ret (jx_e (je_l (jl_d (ja_cons je_non (ja_cons (je_exF hz hf T.xf_at (i := 3)) ja_nil))))))))))) (jz_cons (jz_if (jxt_p (jt_w (jw_or (jt_not (jt_v (je_isi (T := "tuple") (je_var 2) T.n_isinstance T.n_tuple (by decide +kernel)))) (jw_or (jt_cmp (or_ne hX) (je_b cr_len T.n_len PySem.boot_len (ja_cons (je_var 2) ja_nil)) je_int) (jw_or (jt_not (jt_v (jc C_law_whole hr (ja_cons (je_ix hX (je_var 2) je_int) ja_nil)))) (jw_or1 (jt_not (jt_v (jc C_law_whole hr (ja_cons (je_ix hX (je_var 2) je_int) ja_nil))))))))))
  (jz_one (jz_ret (jx_e (je_l (jl_d ja_nil)))))
  jz_nil) (jz_one (jz_ret (jx_e (je_l (jl_d (ja_cons (je_ix hX (je_var 2) je_int) (ja_cons (je_ix hX (je_var 2) je_int) ja_nil)))))))))) gFX_sem
theorem ca_law_outcome (T : Tx K w mg cl) (C_law_whole : Ca P w K mg base cl 1 "_law_whole" ["value"] g_law_whole) (C_decode_number : CaX P w K mg base cl 3 "decode_number" ["octets", "at"] g_decode_number) (S_law_whole : CaS P w K mg base cl 1 "_law_whole" ["value"] g_law_whole) {f : Addr} {fd : FuncData} (D : Df K mg "_law_outcome" s_law_outcome f fd) : CaX P w K mg base cl 4 "_law_outcome" ["octets", "spot"] g_law_outcome :=
  ⟨⟨f, fd, fn_law_outcome T C_law_whole C_decode_number S_law_whole D, D.gm, D.fn.kp, D.fn.binds (fun _ _ _ _ _ _ us hl => match us, hl with | [_, _], _ => rfl)⟩⟩
abbrev s_law_read_at : Stmt := topS 21
theorem sc_law_read_at : FnScope N_law_read_at ["octets", "spot"] (defScope s_law_read_at) := ⟨rfl, rfl, rfl, by decide +kernel, rfl, by decide +kernel, by decide +kernel⟩
theorem ca_law_read_at (T : Tx K w mg cl) {f : Addr} {fd : FuncData} (D : Df K mg "_law_read_at" s_law_read_at f fd) : Ca P w K mg base cl 1 "_law_read_at" ["octets", "spot"] g_law_read_at :=
  ca_def D sc_law_read_at len_law_read_at okt_law_read_at (D.fn.binds (fun _ _ _ _ _ _ us hl => match us, hl with | [_, _], _ => rfl)) (kb_of D.fn (fun _ _ _ _ _ _ us hl => match us, hl with | [_, _], _ => rfl)) (fun cdv A outer s H E hr hX =>
  (js_cons (js_setLc 2 [("k", 3)] hX (ji_range2 gwf_r T.n_range (ja_cons (je_var 1) (ja_cons (je_b cr_len T.n_len PySem.boot_len (ja_cons (je_var 0) ja_nil)) ja_nil))) (by rfl) (fun _ _ _ _ _ => (jg_name 3 (XS.blk hX))) (fun _ _ _ _ _ => (jts_one (jt_cmp or_lt (je_ix (XS.blk hX) (je_var 0) (je_var 3)) je_int))) (fun _ _ _ _ _ => (je_var 3))) (js_cons (js_if (jt_cmp (or_eq hX) (je_b cr_len T.n_len PySem.boot_len (ja_cons (je_var 2) ja_nil)) je_int)
  (js_one (js_ret (je_l (jl_d (ja_cons je_non (ja_cons (je_b cr_len T.n_len PySem.boot_len (ja_cons (je_var 0) ja_nil)) ja_nil))))))
  js_nil) (js_cons (js_set 4 hX (je_ix hX (je_var 2) je_int)) (js_cons (js_if (jt_w (jw_or (jt_cmp or_gt (je_op or_sub (je_var 4) (je_var 1)) je_int) (jw_or1 (jt_w (jw_and (jt_cmp or_gt (je_var 4) (je_var 1)) (jw_and1 (jt_cmp (or_eq hX) (je_ix hX (je_var 0) (je_var 4)) je_int)))))))
  (js_one (js_ret (je_l (jl_d (ja_cons je_non (ja_cons (je_var 1) ja_nil))))))
  js_nil) (js_cons (js_set 5 hX je_int) (js_cons (js_for PassesOwn.never hX (ji_range1 gwf_s T.n_range (ja_cons (je_op or_add (je_op or_sub (je_var 4) (je_var 1)) je_int) ja_nil)) (jg_name 3 hX)
  (js_one (js_set 5 hX (je_op or_add (je_op or_mulX je_int (je_var 5)) (je_op or_mod (je_ty cr_int T.n_int (by decide +kernel) (ja_cons (je_ix hX (je_var 0) (je_op or_sub (je_var 4) (je_var 3))) ja_nil)) je_int))))) (js_one (js_ret (je_l (jl_d (ja_cons (je_var 5) (ja_cons (je_op or_add (je_var 4) je_int) ja_nil))))))))))))) sem_law_read_at
abbrev s_law : Stmt := topS 27
theorem sc_law : FnScope N_law ["script"] (defScope s_law) := ⟨rfl, rfl, rfl, by decide +kernel, rfl, by decide +kernel, by decide +kernel⟩
theorem ok_law (T : Tx K w mg cl) (C_law_cell : Ca P w K mg base cl 1 "_law_cell" ["script", "k"] g_law_cell) (C_law_digits : Ca P w K mg base cl 1 "_law_digits" ["cell", "sizes"] g_law_digits) (C_law_errors_kept : CaX P w K mg base cl 12 "_law_errors_kept" ["n", "text"] g_law_errors_kept) (C_law_more_errors_kept : CaX P w K mg base cl 3 "_law_more_errors_kept" ["n", "text"] g_law_more_errors_kept) (C_law_outcome : CaX P w K mg base cl 4 "_law_outcome" ["octets", "spot"] g_law_outcome) (C_law_read_at : Ca P w K mg base cl 1 "_law_read_at" ["octets", "spot"] g_law_read_at) {f : Addr} {fd : FuncData} (D : Df K mg "law" s_law f fd) : FnOk P w K mg base (L2N.CX P w) 13 f fd ["script"] (spL K) :=
  fn_law (ok_defX D.fn sc_law gFX_len (fun cdv A outer s H E hr hX tk hp =>
  (jz_cons (jz_set 1 hX (jx_e (je_ty cr_int T.n_int (by decide +kernel) (ja_cons (jc C_law_cell hr (ja_cons (je_var 0) (ja_cons je_int ja_nil))) ja_nil)))) (jz_cons (jz_set 2 hX (jx_e (je_ix hX (je_l (jl_d (ja_cons je_str (ja_cons je_str (ja_cons je_str (ja_cons je_str ja_nil)))))) (je_op or_mod (je_ty cr_int T.n_int (by decide +kernel) (ja_cons (je_var 1) ja_nil)) je_int)))) (jz_cons (jz_if (jxt_w (jxw_or (jxt_not (jxt_v (jx_call C_law_errors_kept tk hr (jxa_cons (jx_e (je_var 1)) (jxa_cons (jx_e (je_var 2)) jxa_nil))))) (jxw_or1 (jxt_not (jxt_v (jx_call C_law_more_errors_kept tk hr (jxa_cons (jx_e (je_var 1)) (jxa_cons (jx_e (je_var 2)) jxa_nil))))))))
  (jz_one (jz_ret (jx_e je_bl)))
  jz_nil) (jz_cons (jz_set 3 hX (jx_e (jc C_law_digits hr (ja_cons (jc C_law_cell hr (ja_cons (je_var 0) (ja_cons je_int ja_nil))) (ja_cons (je_l (jl_d (ja_cons je_int (ja_cons je_int (ja_cons je_int (ja_cons je_int ja_nil)))))) ja_nil))))) (jz_cons (jz_set 4 hX (jx_e (jc C_law_digits hr (ja_cons (jc C_law_cell hr (ja_cons (je_var 0) (ja_cons je_int ja_nil))) (ja_cons (je_op or_mulX (je_l (jl_d (ja_cons je_int (ja_cons je_int ja_nil)))) je_int) ja_nil))))) (jz_cons (jz_set 5 hX (jx_lst jxa_nil)) (jz_cons (jz_for hp hX (ji_range1 gwf_s T.n_range (ja_cons (je_ix hX (je_var 3) je_int) ja_nil)) (jg_name 6 hX)
  (jz_cons (jz_set 7 hX (jx_e (je_ix hX (je_var 4) (je_op or_mulX je_int (je_var 6))))) (jz_cons (jz_set 8 hX (jx_e (je_ix hX (je_var 4) (je_op or_add je_int (je_op or_mulX je_int (je_var 6)))))) (jz_cons (jz_if (jxt_p (jt_w (jw_or (jt_cmp or_lt (je_var 7) je_int) (jw_or1 (jt_w (jw_and (jt_cmp (or_eq hX) (je_ix hX (je_var 3) je_int) je_int) (jw_and1 (jt_cmp or_lt (je_var 7) je_int))))))))
  (jz_one (jz_set 8 hX (jx_e (je_op or_add je_int (je_op or_mod (je_ty cr_int T.n_int (by decide +kernel) (ja_cons (je_var 8) ja_nil)) je_int)))))
  (jz_one (jz_if (jxt_p (jt_cmp (or_eq hX) (je_var 7) je_int))
  (jz_one (jz_set 8 hX (jx_e je_int)))
  (jz_one (jz_if (jxt_p (jt_cmp (or_eq hX) (je_var 7) je_int))
  (jz_one (jz_set 8 hX (jx_e je_int)))
  jz_nil))))) (jz_one (jz_do (jx_lm PySem.F.slot_list_append PySem.F.type_list_append mt_append lm_app (jx_h (jh_var 5)) (jxa_cons (jx_e (je_var 8)) jxa_nil)))))))) (jz_cons (jz_if (jxt_p (jt_cmp (or_eq hX) (je_ix hX (je_var 3) je_int) je_int))
  (jz_one (jz_set 5 hX (jx_cat (jx_e (je_l (jl_lc [("k", 6)] hX (ji_range1 gwf_r T.n_range (ja_cons je_int ja_nil)) (by rfl) (fun _ _ _ _ _ => (jg_name 6 (XS.blk hX))) (fun _ _ _ _ _ => jts_nil) (fun _ _ _ _ _ => (je_op or_add je_int (je_var 6)))))) (jx_h (jh_var 5)))))
  jz_nil) (jz_cons (jz_set 9 hX (jx_list T.n_list (jx_h (jh_var 5)) (by decide +kernel))) (jz_cons (jz_if (jxt_p (jt_cmp (or_eq hX) (je_ix hX (je_var 3) je_int) je_int))
  (jz_one (jz_set 9 hX (jx_tupOf T.n_tuple (jx_h (jh_var 5)) (by decide +kernel))))
  jz_nil) (jz_cons (jz_set 10 hX (jx_lst jxa_nil)) (jz_cons (jz_forX hp hX (jix_range1 T.n_range (jx_op or_add (jx_len T.n_len (jx_h (jh_var 5))) (jx_e je_int))) (jg_name 11 hX)
  (jz_cons (jz_set 12 hX (jx_call C_law_outcome tk hr (jxa_cons (jx_h (jh_var 9)) (jxa_cons (jx_e (je_var 11)) jxa_nil)))) (jz_cons (jz_if (jxt_cmp (or_ne hX) (jx_e (je_var 12)) (jx_callP C_law_read_at hr (jxa_cons (jx_h (jh_var 5)) (jxa_cons (jx_e (je_var 11)) jxa_nil))))
  (jz_one (jz_ret (jx_e je_bl)))
  jz_nil) (jz_one (jz_do (jx_lm PySem.F.slot_list_append PySem.F.type_list_append mt_append lm_app (jx_h (jh_var 10)) (jxa_cons (jx_e (je_var 12)) jxa_nil))))))) (jz_cons (jz_setLcR 13 [("spot", 11)] hX (jix_range1 T.n_range (jx_op or_add (jx_len T.n_len (jx_h (jh_var 5))) (jx_e je_int))) (by rfl) (fun _ _ _ _ _ => (jg_name 11 (XS.blk hX))) (fun _ _ _ _ _ => jxts_nil) (fun _ _ _ _ _ => (jx_call C_law_outcome takes0N hr (jxa_cons (jx_h (jh_var 9)) (jxa_cons (jx_e (je_var 11)) jxa_nil))))) (jz_one (jz_ret (jx_and (jx_cmp (or_eq hX) (jx_h (jh_var 13)) (jx_h (jh_var 10))) (jx_and1 (jx_cmp (or_eq hX) (jx_list T.n_list (jx_h (jh_var 9)) (by decide +kernel)) (jx_h (jh_var 5))))))))))))))))))))) gFX_sem) law_true
theorem sa_law_whole (T : Tx K w mg cl) {f : Addr} {fd : FuncData} (D : Df K mg "_law_whole" s_law_whole f fd) : CaS P w K mg base cl 1 "_law_whole" ["value"] g_law_whole :=
  ca_defS D sc_law_whole len_law_whole okt_law_whole (D.fn.binds (fun _ _ _ _ _ _ us hl => match us, hl with | [_], _ => rfl)) (fun cdv A outer s H E p hr hX =>
  (js_one (js_ret (je_and (je_isi (T := "int") (je_var 0) T.n_isinstance T.n_int (by decide +kernel)) (je_and1 (je_not (je_isi (T := "bool") (je_var 0) T.n_isinstance T.n_bool (by decide +kernel)))))))) sem_law_whole
end
theorem all_mk {l : PySem.W.OpenLaw} {w : World} {K : PySem.W.Frag} {h : Heap} {mg : Str → Option Value} {fa : Addr} (X : K.In h) (G : h.Ns mainGlobals mg) (hfa : mg "law" = some (.ref fa))
    {f1 f2 f3 f4 f5 f6 f7 f8 f9 f10 f11 f12 f13 f14 f15 f16 f17 f18 f19 f20 : Addr} {od1 an1 od2 an2 od3 an3 od4 an4 od5 an5 od6 an6 od7 an7 od8 an8 od9 an9 od10 an10 od11 an11 od12 an12 od13 an13 od14 an14 od15 an15 od16 an16 od17 an17 od18 an18 od19 an19 od20 an20 : Option Addr} {sl1 sl2 sl3 sl4 sl5 sl6 sl7 sl8 sl9 sl10 sl11 sl12 sl13 sl14 sl15 sl16 sl17 sl18 sl19 sl20 : Array (Option Value)} {oc1 kV1 dc1 pm1 cd1 ct1 oc2 kV2 dc2 pm2 cd2 ct2 oc3 kV3 dc3 pm3 cd3 ct3 oc4 kV4 dc4 pm4 cd4 ct4 oc5 kV5 dc5 pm5 cd5 ct5 oc6 kV6 dc6 pm6 cd6 ct6 oc7 kV7 dc7 pm7 cd7 ct7 oc8 kV8 dc8 pm8 cd8 ct8 oc9 kV9 dc9 pm9 cd9 ct9 oc10 kV10 dc10 pm10 cd10 ct10 oc11 kV11 dc11 pm11 cd11 ct11 oc12 kV12 dc12 pm12 cd12 ct12 oc13 kV13 dc13 pm13 cd13 ct13 oc14 kV14 dc14 pm14 cd14 ct14 oc15 kV15 dc15 pm15 cd15 ct15 oc16 kV16 dc16 pm16 cd16 ct16 oc17 kV17 dc17 pm17 cd17 ct17 oc18 kV18 dc18 pm18 cd18 ct18 oc19 kV19 dc19 pm19 cd19 ct19 oc20 kV20 dc20 pm20 cd20 ct20 : Value}
    {E1 E2 E3 E4 E5 E6 E7 E8 E9 J1 J2 J3 J4 J5 J6 J7 J8 J9 J10 O1 : Addr} {xnm1 xq1 xnm2 xq2 xnm3 xq3 xnm4 xq4 xnm5 xq5 xnm6 xq6 xnm7 xq7 xnm8 xq8 xnm9 xq9 : Str} {xN1 xN2 xN3 xN4 xN5 xN6 xN7 xN8 xN9 : Addr} {xbs1 xbm1 xsub1 xbs2 xbm2 xsub2 xbs3 xbm3 xsub3 xbs4 xbm4 xsub4 xbs5 xbm5 xsub5 xbs6 xbm6 xsub6 xbs7 xbm7 xsub7 xbs8 xbm8 xsub8 xbs9 xbm9 xsub9 : List Value} {xsn1 xsn2 xsn3 xsn4 xsn5 xsn6 xsn7 xsn8 xsn9 : List Str} {xab1 xab2 xab3 xab4 xab5 xab6 xab7 xab8 xab9 : Bool} {xcol1 xcol2 xcol3 xcol4 xcol5 xcol6 xcol7 xcol8 xcol9 : Option Bool} {xdd1 xdd2 xdd3 xdd4 xdd5 xdd6 xdd7 xdd8 xdd9 : Option Addr} {xm01 xm11 xm21 xm31 xm51 xm02 xm12 xm22 xm32 xm52 xm03 xm13 xm23 xm33 xm53 xm04 xm14 xm24 xm34 xm54 xm05 xm15 xm25 xm35 xm55 xm06 xm16 xm26 xm36 xm56 xm07 xm17 xm27 xm37 xm57 xm08 xm18 xm28 xm38 xm58 xm09 xm19 xm29 xm39 xm59 : Option Value}
    (xa1 : PySem.W.nsIn K mainGlobals "BadCode" = some (some (.ref E1))) (xb1 : K.lookup E1 = some (excClassObj xnm1 xq1 E1 xN1 xbs1 xbm1 true xsn1 xsub1 xab1 xcol1 xdd1 xm01 xm11 xm21 xm31 xm51 "ValueError.__new__")) (xr1 : PySem.HandSPX.refsVE xbm1 = true) (xc1 : PySem.W.findIn K (.ref E1) "__setattr__" = some (some (.builtin "object.__setattr__"))) (xd1 : PySem.W.findIn K (.ref E1) "__getattribute__" = some (some (.builtin "BaseException.__getattribute__"))) (xe1 : PySem.W.findIn K (.ref E1) "__getattr__" = some none) (xi1 : PySem.W.keepIn K (.ref E1) = true) (xj1 : PySem.W.subIn K (.ref E1) (.type "BaseException") = some true) (xk1 : PySem.W.typeIn K (.ref E1) = some (.type "type")) (xl1 : PySem.W.hasDictIn K E1 = true) (xp1 : PySem.W.findIn K (.ref E1) "__class__" = some (some (.builtin "object.__class__"))) (xs1 : PySem.W.mroIn K E1 (.type "object") = some true)
    (xf1_at : PySem.W.findIn K (.ref E1) "at" = some none)
    (xa2 : PySem.W.nsIn K mainGlobals "BadProgram" = some (some (.ref E2))) (xb2 : K.lookup E2 = some (excClassObj xnm2 xq2 E2 xN2 xbs2 xbm2 true xsn2 xsub2 xab2 xcol2 xdd2 xm02 xm12 xm22 xm32 xm52 "ValueError.__new__")) (xr2 : PySem.HandSPX.refsVE xbm2 = true) (xc2 : PySem.W.findIn K (.ref E2) "__setattr__" = some (some (.builtin "object.__setattr__"))) (xd2 : PySem.W.findIn K (.ref E2) "__getattribute__" = some (some (.builtin "BaseException.__getattribute__"))) (xe2 : PySem.W.findIn K (.ref E2) "__getattr__" = some none) (xi2 : PySem.W.keepIn K (.ref E2) = true) (xj2 : PySem.W.subIn K (.ref E2) (.type "BaseException") = some true) (xk2 : PySem.W.typeIn K (.ref E2) = some (.type "type")) (xl2 : PySem.W.hasDictIn K E2 = true) (xp2 : PySem.W.findIn K (.ref E2) "__class__" = some (some (.builtin "object.__class__"))) (xs2 : PySem.W.mroIn K E2 (.type "object") = some true)
    (xf2_part : PySem.W.findIn K (.ref E2) "part" = some none)
    (xf2_number : PySem.W.findIn K (.ref E2) "number" = some none)
    (xf2_place : PySem.W.findIn K (.ref E2) "place" = some none)
    (xf2_why : PySem.W.findIn K (.ref E2) "why" = some none)
    (xa3 : PySem.W.nsIn K mainGlobals "BadText" = some (some (.ref E3))) (xb3 : K.lookup E3 = some (excClassObj xnm3 xq3 E3 xN3 xbs3 xbm3 true xsn3 xsub3 xab3 xcol3 xdd3 xm03 xm13 xm23 xm33 xm53 "ValueError.__new__")) (xr3 : PySem.HandSPX.refsVE xbm3 = true) (xc3 : PySem.W.findIn K (.ref E3) "__setattr__" = some (some (.builtin "object.__setattr__"))) (xd3 : PySem.W.findIn K (.ref E3) "__getattribute__" = some (some (.builtin "BaseException.__getattribute__"))) (xe3 : PySem.W.findIn K (.ref E3) "__getattr__" = some none) (xi3 : PySem.W.keepIn K (.ref E3) = true) (xj3 : PySem.W.subIn K (.ref E3) (.type "BaseException") = some true) (xk3 : PySem.W.typeIn K (.ref E3) = some (.type "type")) (xl3 : PySem.W.hasDictIn K E3 = true) (xp3 : PySem.W.findIn K (.ref E3) "__class__" = some (some (.builtin "object.__class__"))) (xs3 : PySem.W.mroIn K E3 (.type "object") = some true)
    (xf3_line : PySem.W.findIn K (.ref E3) "line" = some none)
    (xf3_why : PySem.W.findIn K (.ref E3) "why" = some none)
    (xa4 : PySem.W.nsIn K mainGlobals "Refused" = some (some (.ref E4))) (xb4 : K.lookup E4 = some (excClassObj xnm4 xq4 E4 xN4 xbs4 xbm4 true xsn4 xsub4 xab4 xcol4 xdd4 xm04 xm14 xm24 xm34 xm54 "ValueError.__new__")) (xr4 : PySem.HandSPX.refsVE xbm4 = true) (xc4 : PySem.W.findIn K (.ref E4) "__setattr__" = some (some (.builtin "object.__setattr__"))) (xd4 : PySem.W.findIn K (.ref E4) "__getattribute__" = some (some (.builtin "BaseException.__getattribute__"))) (xe4 : PySem.W.findIn K (.ref E4) "__getattr__" = some none) (xi4 : PySem.W.keepIn K (.ref E4) = true) (xj4 : PySem.W.subIn K (.ref E4) (.type "BaseException") = some true) (xk4 : PySem.W.typeIn K (.ref E4) = some (.type "type")) (xl4 : PySem.W.hasDictIn K E4 = true) (xp4 : PySem.W.findIn K (.ref E4) "__class__" = some (some (.builtin "object.__class__"))) (xs4 : PySem.W.mroIn K E4 (.type "object") = some true)
    (xf4_number : PySem.W.findIn K (.ref E4) "number" = some none)
    (xf4_why : PySem.W.findIn K (.ref E4) "why" = some none)
    (xf4_walk : PySem.W.findIn K (.ref E4) "walk" = some none)
    (xf4_other : PySem.W.findIn K (.ref E4) "other" = some none)
    (xa5 : PySem.W.nsIn K mainGlobals "BadArguments" = some (some (.ref E5))) (xb5 : K.lookup E5 = some (excClassObj xnm5 xq5 E5 xN5 xbs5 xbm5 true xsn5 xsub5 xab5 xcol5 xdd5 xm05 xm15 xm25 xm35 xm55 "ValueError.__new__")) (xr5 : PySem.HandSPX.refsVE xbm5 = true) (xc5 : PySem.W.findIn K (.ref E5) "__setattr__" = some (some (.builtin "object.__setattr__"))) (xd5 : PySem.W.findIn K (.ref E5) "__getattribute__" = some (some (.builtin "BaseException.__getattribute__"))) (xe5 : PySem.W.findIn K (.ref E5) "__getattr__" = some none) (xi5 : PySem.W.keepIn K (.ref E5) = true) (xj5 : PySem.W.subIn K (.ref E5) (.type "BaseException") = some true) (xk5 : PySem.W.typeIn K (.ref E5) = some (.type "type")) (xl5 : PySem.W.hasDictIn K E5 = true) (xp5 : PySem.W.findIn K (.ref E5) "__class__" = some (some (.builtin "object.__class__"))) (xs5 : PySem.W.mroIn K E5 (.type "object") = some true)
    (xz5 : PySem.W.excIn K E5 veB "ValueError.__new__" = true)
    (xa6 : PySem.W.nsIn K mainGlobals "BadPicture" = some (some (.ref E6))) (xb6 : K.lookup E6 = some (excClassObj xnm6 xq6 E6 xN6 xbs6 xbm6 true xsn6 xsub6 xab6 xcol6 xdd6 xm06 xm16 xm26 xm36 xm56 "ValueError.__new__")) (xr6 : PySem.HandSPX.refsVE xbm6 = true) (xc6 : PySem.W.findIn K (.ref E6) "__setattr__" = some (some (.builtin "object.__setattr__"))) (xd6 : PySem.W.findIn K (.ref E6) "__getattribute__" = some (some (.builtin "BaseException.__getattribute__"))) (xe6 : PySem.W.findIn K (.ref E6) "__getattr__" = some none) (xi6 : PySem.W.keepIn K (.ref E6) = true) (xj6 : PySem.W.subIn K (.ref E6) (.type "BaseException") = some true) (xk6 : PySem.W.typeIn K (.ref E6) = some (.type "type")) (xl6 : PySem.W.hasDictIn K E6 = true) (xp6 : PySem.W.findIn K (.ref E6) "__class__" = some (some (.builtin "object.__class__"))) (xs6 : PySem.W.mroIn K E6 (.type "object") = some true)
    (xf6_part : PySem.W.findIn K (.ref E6) "part" = some none)
    (xf6_number : PySem.W.findIn K (.ref E6) "number" = some none)
    (xf6_why : PySem.W.findIn K (.ref E6) "why" = some none)
    (xa7 : PySem.W.nsIn K mainGlobals "BadImage" = some (some (.ref E7))) (xb7 : K.lookup E7 = some (excClassObj xnm7 xq7 E7 xN7 xbs7 xbm7 true xsn7 xsub7 xab7 xcol7 xdd7 xm07 xm17 xm27 xm37 xm57 "ValueError.__new__")) (xr7 : PySem.HandSPX.refsVE xbm7 = true) (xc7 : PySem.W.findIn K (.ref E7) "__setattr__" = some (some (.builtin "object.__setattr__"))) (xd7 : PySem.W.findIn K (.ref E7) "__getattribute__" = some (some (.builtin "BaseException.__getattribute__"))) (xe7 : PySem.W.findIn K (.ref E7) "__getattr__" = some none) (xi7 : PySem.W.keepIn K (.ref E7) = true) (xj7 : PySem.W.subIn K (.ref E7) (.type "BaseException") = some true) (xk7 : PySem.W.typeIn K (.ref E7) = some (.type "type")) (xl7 : PySem.W.hasDictIn K E7 = true) (xp7 : PySem.W.findIn K (.ref E7) "__class__" = some (some (.builtin "object.__class__"))) (xs7 : PySem.W.mroIn K E7 (.type "object") = some true)
    (xf7_line : PySem.W.findIn K (.ref E7) "line" = some none)
    (xf7_why : PySem.W.findIn K (.ref E7) "why" = some none)
    (xa8 : PySem.W.nsIn K mainGlobals "NoRoom" = some (some (.ref E8))) (xb8 : K.lookup E8 = some (excClassObj xnm8 xq8 E8 xN8 xbs8 xbm8 true xsn8 xsub8 xab8 xcol8 xdd8 xm08 xm18 xm28 xm38 xm58 "ValueError.__new__")) (xr8 : PySem.HandSPX.refsVE xbm8 = true) (xc8 : PySem.W.findIn K (.ref E8) "__setattr__" = some (some (.builtin "object.__setattr__"))) (xd8 : PySem.W.findIn K (.ref E8) "__getattribute__" = some (some (.builtin "BaseException.__getattribute__"))) (xe8 : PySem.W.findIn K (.ref E8) "__getattr__" = some none) (xi8 : PySem.W.keepIn K (.ref E8) = true) (xj8 : PySem.W.subIn K (.ref E8) (.type "BaseException") = some true) (xk8 : PySem.W.typeIn K (.ref E8) = some (.type "type")) (xl8 : PySem.W.hasDictIn K E8 = true) (xp8 : PySem.W.findIn K (.ref E8) "__class__" = some (some (.builtin "object.__class__"))) (xs8 : PySem.W.mroIn K E8 (.type "object") = some true)
    (xf8_words : PySem.W.findIn K (.ref E8) "words" = some none)
    (xa9 : PySem.W.nsIn K mainGlobals "NoObject" = some (some (.ref E9))) (xb9 : K.lookup E9 = some (excClassObj xnm9 xq9 E9 xN9 xbs9 xbm9 true xsn9 xsub9 xab9 xcol9 xdd9 xm09 xm19 xm29 xm39 xm59 "ValueError.__new__")) (xr9 : PySem.HandSPX.refsVE xbm9 = true) (xc9 : PySem.W.findIn K (.ref E9) "__setattr__" = some (some (.builtin "object.__setattr__"))) (xd9 : PySem.W.findIn K (.ref E9) "__getattribute__" = some (some (.builtin "BaseException.__getattribute__"))) (xe9 : PySem.W.findIn K (.ref E9) "__getattr__" = some none) (xi9 : PySem.W.keepIn K (.ref E9) = true) (xj9 : PySem.W.subIn K (.ref E9) (.type "BaseException") = some true) (xk9 : PySem.W.typeIn K (.ref E9) = some (.type "type")) (xl9 : PySem.W.hasDictIn K E9 = true) (xp9 : PySem.W.findIn K (.ref E9) "__class__" = some (some (.builtin "object.__class__"))) (xs9 : PySem.W.mroIn K E9 (.type "object") = some true)
    (xf9_number : PySem.W.findIn K (.ref E9) "number" = some none)
    (xt1 : PySem.W.nsIn K mainGlobals "BadArguments" = some (some (.ref J1)))
    (xo1_1 : PySem.W.kitOne K (.ref E1) (.ref J1) = some false)
    (xo2_1 : PySem.W.kitOne K (.ref E2) (.ref J1) = some false)
    (xo3_1 : PySem.W.kitOne K (.ref E3) (.ref J1) = some false)
    (xo4_1 : PySem.W.kitOne K (.ref E4) (.ref J1) = some false)
    (xo5_1 : PySem.W.kitOne K (.ref E5) (.ref J1) = some true)
    (xo6_1 : PySem.W.kitOne K (.ref E6) (.ref J1) = some false)
    (xo7_1 : PySem.W.kitOne K (.ref E7) (.ref J1) = some false)
    (xo8_1 : PySem.W.kitOne K (.ref E8) (.ref J1) = some false)
    (xo9_1 : PySem.W.kitOne K (.ref E9) (.ref J1) = some false)
    (xt2 : PySem.W.nsIn K mainGlobals "BadCode" = some (some (.ref J2)))
    (xo1_2 : PySem.W.kitOne K (.ref E1) (.ref J2) = some true)
    (xo2_2 : PySem.W.kitOne K (.ref E2) (.ref J2) = some false)
    (xo3_2 : PySem.W.kitOne K (.ref E3) (.ref J2) = some false)
    (xo4_2 : PySem.W.kitOne K (.ref E4) (.ref J2) = some false)
    (xo5_2 : PySem.W.kitOne K (.ref E5) (.ref J2) = some false)
    (xo6_2 : PySem.W.kitOne K (.ref E6) (.ref J2) = some false)
    (xo7_2 : PySem.W.kitOne K (.ref E7) (.ref J2) = some false)
    (xo8_2 : PySem.W.kitOne K (.ref E8) (.ref J2) = some false)
    (xo9_2 : PySem.W.kitOne K (.ref E9) (.ref J2) = some false)
    (xt3 : PySem.W.nsIn K mainGlobals "BadImage" = some (some (.ref J3)))
    (xo1_3 : PySem.W.kitOne K (.ref E1) (.ref J3) = some false)
    (xo2_3 : PySem.W.kitOne K (.ref E2) (.ref J3) = some false)
    (xo3_3 : PySem.W.kitOne K (.ref E3) (.ref J3) = some false)
    (xo4_3 : PySem.W.kitOne K (.ref E4) (.ref J3) = some false)
    (xo5_3 : PySem.W.kitOne K (.ref E5) (.ref J3) = some false)
    (xo6_3 : PySem.W.kitOne K (.ref E6) (.ref J3) = some false)
    (xo7_3 : PySem.W.kitOne K (.ref E7) (.ref J3) = some true)
    (xo8_3 : PySem.W.kitOne K (.ref E8) (.ref J3) = some false)
    (xo9_3 : PySem.W.kitOne K (.ref E9) (.ref J3) = some false)
    (xt4 : PySem.W.nsIn K mainGlobals "BadPicture" = some (some (.ref J4)))
    (xo1_4 : PySem.W.kitOne K (.ref E1) (.ref J4) = some false)
    (xo2_4 : PySem.W.kitOne K (.ref E2) (.ref J4) = some false)
    (xo3_4 : PySem.W.kitOne K (.ref E3) (.ref J4) = some false)
    (xo4_4 : PySem.W.kitOne K (.ref E4) (.ref J4) = some false)
    (xo5_4 : PySem.W.kitOne K (.ref E5) (.ref J4) = some false)
    (xo6_4 : PySem.W.kitOne K (.ref E6) (.ref J4) = some true)
    (xo7_4 : PySem.W.kitOne K (.ref E7) (.ref J4) = some false)
    (xo8_4 : PySem.W.kitOne K (.ref E8) (.ref J4) = some false)
    (xo9_4 : PySem.W.kitOne K (.ref E9) (.ref J4) = some false)
    (xt5 : PySem.W.nsIn K mainGlobals "BadProgram" = some (some (.ref J5)))
    (xo1_5 : PySem.W.kitOne K (.ref E1) (.ref J5) = some false)
    (xo2_5 : PySem.W.kitOne K (.ref E2) (.ref J5) = some true)
    (xo3_5 : PySem.W.kitOne K (.ref E3) (.ref J5) = some false)
    (xo4_5 : PySem.W.kitOne K (.ref E4) (.ref J5) = some false)
    (xo5_5 : PySem.W.kitOne K (.ref E5) (.ref J5) = some false)
    (xo6_5 : PySem.W.kitOne K (.ref E6) (.ref J5) = some false)
    (xo7_5 : PySem.W.kitOne K (.ref E7) (.ref J5) = some false)
    (xo8_5 : PySem.W.kitOne K (.ref E8) (.ref J5) = some false)
    (xo9_5 : PySem.W.kitOne K (.ref E9) (.ref J5) = some false)
    (xt6 : PySem.W.nsIn K mainGlobals "BadText" = some (some (.ref J6)))
    (xo1_6 : PySem.W.kitOne K (.ref E1) (.ref J6) = some false)
    (xo2_6 : PySem.W.kitOne K (.ref E2) (.ref J6) = some false)
    (xo3_6 : PySem.W.kitOne K (.ref E3) (.ref J6) = some true)
    (xo4_6 : PySem.W.kitOne K (.ref E4) (.ref J6) = some false)
    (xo5_6 : PySem.W.kitOne K (.ref E5) (.ref J6) = some false)
    (xo6_6 : PySem.W.kitOne K (.ref E6) (.ref J6) = some false)
    (xo7_6 : PySem.W.kitOne K (.ref E7) (.ref J6) = some false)
    (xo8_6 : PySem.W.kitOne K (.ref E8) (.ref J6) = some false)
    (xo9_6 : PySem.W.kitOne K (.ref E9) (.ref J6) = some false)
    (xt7 : PySem.W.nsIn K mainGlobals "NoObject" = some (some (.ref J7)))
    (xo1_7 : PySem.W.kitOne K (.ref E1) (.ref J7) = some false)
    (xo2_7 : PySem.W.kitOne K (.ref E2) (.ref J7) = some false)
    (xo3_7 : PySem.W.kitOne K (.ref E3) (.ref J7) = some false)
    (xo4_7 : PySem.W.kitOne K (.ref E4) (.ref J7) = some false)
    (xo5_7 : PySem.W.kitOne K (.ref E5) (.ref J7) = some false)
    (xo6_7 : PySem.W.kitOne K (.ref E6) (.ref J7) = some false)
    (xo7_7 : PySem.W.kitOne K (.ref E7) (.ref J7) = some false)
    (xo8_7 : PySem.W.kitOne K (.ref E8) (.ref J7) = some false)
    (xo9_7 : PySem.W.kitOne K (.ref E9) (.ref J7) = some true)
    (xt8 : PySem.W.nsIn K mainGlobals "NoRoom" = some (some (.ref J8)))
    (xo1_8 : PySem.W.kitOne K (.ref E1) (.ref J8) = some false)
    (xo2_8 : PySem.W.kitOne K (.ref E2) (.ref J8) = some false)
    (xo3_8 : PySem.W.kitOne K (.ref E3) (.ref J8) = some false)
    (xo4_8 : PySem.W.kitOne K (.ref E4) (.ref J8) = some false)
    (xo5_8 : PySem.W.kitOne K (.ref E5) (.ref J8) = some false)
    (xo6_8 : PySem.W.kitOne K (.ref E6) (.ref J8) = some false)
    (xo7_8 : PySem.W.kitOne K (.ref E7) (.ref J8) = some false)
    (xo8_8 : PySem.W.kitOne K (.ref E8) (.ref J8) = some true)
    (xo9_8 : PySem.W.kitOne K (.ref E9) (.ref J8) = some false)
    (xt9 : PySem.W.nsIn K mainGlobals "QuietError" = some (some (.ref J9)))
    (xo1_9 : PySem.W.kitOne K (.ref E1) (.ref J9) = some true)
    (xo2_9 : PySem.W.kitOne K (.ref E2) (.ref J9) = some true)
    (xo3_9 : PySem.W.kitOne K (.ref E3) (.ref J9) = some true)
    (xo4_9 : PySem.W.kitOne K (.ref E4) (.ref J9) = some true)
    (xo5_9 : PySem.W.kitOne K (.ref E5) (.ref J9) = some true)
    (xo6_9 : PySem.W.kitOne K (.ref E6) (.ref J9) = some true)
    (xo7_9 : PySem.W.kitOne K (.ref E7) (.ref J9) = some true)
    (xo8_9 : PySem.W.kitOne K (.ref E8) (.ref J9) = some true)
    (xo9_9 : PySem.W.kitOne K (.ref E9) (.ref J9) = some true)
    (xt10 : PySem.W.nsIn K mainGlobals "Refused" = some (some (.ref J10)))
    (xo1_10 : PySem.W.kitOne K (.ref E1) (.ref J10) = some false)
    (xo2_10 : PySem.W.kitOne K (.ref E2) (.ref J10) = some false)
    (xo3_10 : PySem.W.kitOne K (.ref E3) (.ref J10) = some false)
    (xo4_10 : PySem.W.kitOne K (.ref E4) (.ref J10) = some true)
    (xo5_10 : PySem.W.kitOne K (.ref E5) (.ref J10) = some false)
    (xo6_10 : PySem.W.kitOne K (.ref E6) (.ref J10) = some false)
    (xo7_10 : PySem.W.kitOne K (.ref E7) (.ref J10) = some false)
    (xo8_10 : PySem.W.kitOne K (.ref E8) (.ref J10) = some false)
    (xo9_10 : PySem.W.kitOne K (.ref E9) (.ref J10) = some false)
    (xq1_BadProgram_BadText_Refused_BadArguments_BadPicture_BadImage_NoRoom_NoObject : PySem.W.kitAny K (.ref E1) [.ref J5, .ref J6, .ref J10, .ref J1, .ref J4, .ref J3, .ref J8, .ref J7] = some false)
    (xq2_BadProgram_BadText_Refused_BadArguments_BadPicture_BadImage_NoRoom_NoObject : PySem.W.kitAny K (.ref E2) [.ref J5, .ref J6, .ref J10, .ref J1, .ref J4, .ref J3, .ref J8, .ref J7] = some true)
    (xq3_BadProgram_BadText_Refused_BadArguments_BadPicture_BadImage_NoRoom_NoObject : PySem.W.kitAny K (.ref E3) [.ref J5, .ref J6, .ref J10, .ref J1, .ref J4, .ref J3, .ref J8, .ref J7] = some true)
    (xq4_BadProgram_BadText_Refused_BadArguments_BadPicture_BadImage_NoRoom_NoObject : PySem.W.kitAny K (.ref E4) [.ref J5, .ref J6, .ref J10, .ref J1, .ref J4, .ref J3, .ref J8, .ref J7] = some true)
    (xq5_BadProgram_BadText_Refused_BadArguments_BadPicture_BadImage_NoRoom_NoObject : PySem.W.kitAny K (.ref E5) [.ref J5, .ref J6, .ref J10, .ref J1, .ref J4, .ref J3, .ref J8, .ref J7] = some true)
    (xq6_BadProgram_BadText_Refused_BadArguments_BadPicture_BadImage_NoRoom_NoObject : PySem.W.kitAny K (.ref E6) [.ref J5, .ref J6, .ref J10, .ref J1, .ref J4, .ref J3, .ref J8, .ref J7] = some true)
    (xq7_BadProgram_BadText_Refused_BadArguments_BadPicture_BadImage_NoRoom_NoObject : PySem.W.kitAny K (.ref E7) [.ref J5, .ref J6, .ref J10, .ref J1, .ref J4, .ref J3, .ref J8, .ref J7] = some true)
    (xq8_BadProgram_BadText_Refused_BadArguments_BadPicture_BadImage_NoRoom_NoObject : PySem.W.kitAny K (.ref E8) [.ref J5, .ref J6, .ref J10, .ref J1, .ref J4, .ref J3, .ref J8, .ref J7] = some true)
    (xq9_BadProgram_BadText_Refused_BadArguments_BadPicture_BadImage_NoRoom_NoObject : PySem.W.kitAny K (.ref E9) [.ref J5, .ref J6, .ref J10, .ref J1, .ref J4, .ref J3, .ref J8, .ref J7] = some true)
    (xo1_ValueError : PySem.W.kitOne K (.ref E1) (.type "ValueError") = some true)
    (xo2_ValueError : PySem.W.kitOne K (.ref E2) (.type "ValueError") = some true)
    (xo3_ValueError : PySem.W.kitOne K (.ref E3) (.type "ValueError") = some true)
    (xo4_ValueError : PySem.W.kitOne K (.ref E4) (.type "ValueError") = some true)
    (xo5_ValueError : PySem.W.kitOne K (.ref E5) (.type "ValueError") = some true)
    (xo6_ValueError : PySem.W.kitOne K (.ref E6) (.type "ValueError") = some true)
    (xo7_ValueError : PySem.W.kitOne K (.ref E7) (.type "ValueError") = some true)
    (xo8_ValueError : PySem.W.kitOne K (.ref E8) (.type "ValueError") = some true)
    (xo9_ValueError : PySem.W.kitOne K (.ref E9) (.type "ValueError") = some true)
    (xh1 : PySem.W.nsIn K mainGlobals "BadCode" = some (some (.ref O1))) (xu1 : PySem.W.subIn K (.ref O1) (.type "BaseException") = some true) (xv1 : PySem.W.hasDictIn K O1 = true) (xw1 : PySem.W.typeIn K (.ref O1) = some (.type "type"))
    (xy1_1 : PySem.W.subIn K (.ref E1) (.ref O1) = some true)
    (v2 : PySem.W.specialIn K (.builtin "object.__class__") "__get__" = some (some (.builtin "getset_descriptor.__get__"))) (v3 : PySem.W.takesIn K (.builtin "object.__class__") = some true)
    (a1 : PySem.W.nsIn K mainGlobals "_law_cell" = some (some (.ref f1)))
    (l1 : K.lookup f1 = some ⟨oc1, od1, .func (PySem.W.fnOf "_law_cell" "_law_cell" (defArgs s_law_cell) (defBody s_law_cell) (defScope s_law_cell) .none kV1 dc1 pm1 an1 cd1 ct1), sl1⟩) (c1 : PySem.W.codeIn K cd1 "_law_cell" = true) (k1 : PySem.W.keepIn K (.ref f1) = true)
    (a2 : PySem.W.nsIn K mainGlobals "_law_digits" = some (some (.ref f2)))
    (l2 : K.lookup f2 = some ⟨oc2, od2, .func (PySem.W.fnOf "_law_digits" "_law_digits" (defArgs s_law_digits) (defBody s_law_digits) (defScope s_law_digits) .none kV2 dc2 pm2 an2 cd2 ct2), sl2⟩) (c2 : PySem.W.codeIn K cd2 "_law_digits" = true) (k2 : PySem.W.keepIn K (.ref f2) = true)
    (a3 : PySem.W.nsIn K mainGlobals "_law_classes" = some (some (.ref f3)))
    (l3 : K.lookup f3 = some ⟨oc3, od3, .func (PySem.W.fnOf "_law_classes" "_law_classes" (defArgs s_law_classes) (defBody s_law_classes) (defScope s_law_classes) .none kV3 dc3 pm3 an3 cd3 ct3), sl3⟩) (c3 : PySem.W.codeIn K cd3 "_law_classes" = true) (k3 : PySem.W.keepIn K (.ref f3) = true)
    (a4 : PySem.W.nsIn K mainGlobals "_law_apart" = some (some (.ref f4)))
    (l4 : K.lookup f4 = some ⟨oc4, od4, .func (PySem.W.fnOf "_law_apart" "_law_apart" (defArgs s_law_apart) (defBody s_law_apart) (defScope s_law_apart) .none kV4 dc4 pm4 an4 cd4 ct4), sl4⟩) (c4 : PySem.W.codeIn K cd4 "_law_apart" = true) (k4 : PySem.W.keepIn K (.ref f4) = true)
    (a5 : PySem.W.findIn K (.ref E2) "__init__" = some (some (.ref f5))) (i5 : PySem.W.typeIn K (.ref f5) = some (.type "function"))
    (l5 : K.lookup f5 = some ⟨oc5, od5, .func (PySem.W.fnOf "__init__" "BadProgram.__init__" (defArgs s_BadProgram_init) (defBody s_BadProgram_init) (defScope s_BadProgram_init) .none kV5 dc5 pm5 an5 cd5 ct5), sl5⟩) (c5 : PySem.W.codeIn K cd5 "BadProgram.__init__" = true) (k5 : PySem.W.keepIn K (.ref f5) = true)
    (a6 : PySem.W.findIn K (.ref E3) "__init__" = some (some (.ref f6))) (i6 : PySem.W.typeIn K (.ref f6) = some (.type "function"))
    (l6 : K.lookup f6 = some ⟨oc6, od6, .func (PySem.W.fnOf "__init__" "BadText.__init__" (defArgs s_BadText_init) (defBody s_BadText_init) (defScope s_BadText_init) .none kV6 dc6 pm6 an6 cd6 ct6), sl6⟩) (c6 : PySem.W.codeIn K cd6 "BadText.__init__" = true) (k6 : PySem.W.keepIn K (.ref f6) = true)
    (a7 : PySem.W.findIn K (.ref E1) "__init__" = some (some (.ref f7))) (i7 : PySem.W.typeIn K (.ref f7) = some (.type "function"))
    (l7 : K.lookup f7 = some ⟨oc7, od7, .func (PySem.W.fnOf "__init__" "BadCode.__init__" (defArgs s_BadCode_init) (defBody s_BadCode_init) (defScope s_BadCode_init) .none kV7 dc7 pm7 an7 cd7 ct7), sl7⟩) (c7 : PySem.W.codeIn K cd7 "BadCode.__init__" = true) (k7 : PySem.W.keepIn K (.ref f7) = true)
    (a8 : PySem.W.nsIn K mainGlobals "frozen" = some (some (.ref f8)))
    (l8 : K.lookup f8 = some ⟨oc8, od8, .func (PySem.W.fnOf "frozen" "frozen" (defArgs s_frozen) (defBody s_frozen) (defScope s_frozen) .none kV8 dc8 pm8 an8 cd8 ct8), sl8⟩) (c8 : PySem.W.codeIn K cd8 "frozen" = true) (k8 : PySem.W.keepIn K (.ref f8) = true)
    (a9 : PySem.W.findIn K (.ref E4) "__init__" = some (some (.ref f9))) (i9 : PySem.W.typeIn K (.ref f9) = some (.type "function"))
    (l9 : K.lookup f9 = some ⟨oc9, od9, .func (PySem.W.fnOf "__init__" "Refused.__init__" (defArgs s_Refused_init) (defBody s_Refused_init) (defScope s_Refused_init) .none kV9 dc9 pm9 an9 cd9 ct9), sl9⟩) (c9 : PySem.W.codeIn K cd9 "Refused.__init__" = true) (k9 : PySem.W.keepIn K (.ref f9) = true)
    (a10 : PySem.W.nsIn K mainGlobals "_law_errors_kept" = some (some (.ref f10)))
    (l10 : K.lookup f10 = some ⟨oc10, od10, .func (PySem.W.fnOf "_law_errors_kept" "_law_errors_kept" (defArgs s_law_errors_kept) (defBody s_law_errors_kept) (defScope s_law_errors_kept) .none kV10 dc10 pm10 an10 cd10 ct10), sl10⟩) (c10 : PySem.W.codeIn K cd10 "_law_errors_kept" = true) (k10 : PySem.W.keepIn K (.ref f10) = true)
    (a11 : PySem.W.findIn K (.ref E6) "__init__" = some (some (.ref f11))) (i11 : PySem.W.typeIn K (.ref f11) = some (.type "function"))
    (l11 : K.lookup f11 = some ⟨oc11, od11, .func (PySem.W.fnOf "__init__" "BadPicture.__init__" (defArgs s_BadPicture_init) (defBody s_BadPicture_init) (defScope s_BadPicture_init) .none kV11 dc11 pm11 an11 cd11 ct11), sl11⟩) (c11 : PySem.W.codeIn K cd11 "BadPicture.__init__" = true) (k11 : PySem.W.keepIn K (.ref f11) = true)
    (a12 : PySem.W.findIn K (.ref E7) "__init__" = some (some (.ref f12))) (i12 : PySem.W.typeIn K (.ref f12) = some (.type "function"))
    (l12 : K.lookup f12 = some ⟨oc12, od12, .func (PySem.W.fnOf "__init__" "BadImage.__init__" (defArgs s_BadImage_init) (defBody s_BadImage_init) (defScope s_BadImage_init) .none kV12 dc12 pm12 an12 cd12 ct12), sl12⟩) (c12 : PySem.W.codeIn K cd12 "BadImage.__init__" = true) (k12 : PySem.W.keepIn K (.ref f12) = true)
    (a13 : PySem.W.findIn K (.ref E8) "__init__" = some (some (.ref f13))) (i13 : PySem.W.typeIn K (.ref f13) = some (.type "function"))
    (l13 : K.lookup f13 = some ⟨oc13, od13, .func (PySem.W.fnOf "__init__" "NoRoom.__init__" (defArgs s_NoRoom_init) (defBody s_NoRoom_init) (defScope s_NoRoom_init) .none kV13 dc13 pm13 an13 cd13 ct13), sl13⟩) (c13 : PySem.W.codeIn K cd13 "NoRoom.__init__" = true) (k13 : PySem.W.keepIn K (.ref f13) = true)
    (a14 : PySem.W.findIn K (.ref E9) "__init__" = some (some (.ref f14))) (i14 : PySem.W.typeIn K (.ref f14) = some (.type "function"))
    (l14 : K.lookup f14 = some ⟨oc14, od14, .func (PySem.W.fnOf "__init__" "NoObject.__init__" (defArgs s_NoObject_init) (defBody s_NoObject_init) (defScope s_NoObject_init) .none kV14 dc14 pm14 an14 cd14 ct14), sl14⟩) (c14 : PySem.W.codeIn K cd14 "NoObject.__init__" = true) (k14 : PySem.W.keepIn K (.ref f14) = true)
    (a15 : PySem.W.nsIn K mainGlobals "_law_more_errors_kept" = some (some (.ref f15)))
    (l15 : K.lookup f15 = some ⟨oc15, od15, .func (PySem.W.fnOf "_law_more_errors_kept" "_law_more_errors_kept" (defArgs s_law_more_errors_kept) (defBody s_law_more_errors_kept) (defScope s_law_more_errors_kept) .none kV15 dc15 pm15 an15 cd15 ct15), sl15⟩) (c15 : PySem.W.codeIn K cd15 "_law_more_errors_kept" = true) (k15 : PySem.W.keepIn K (.ref f15) = true)
    (a16 : PySem.W.nsIn K mainGlobals "_law_whole" = some (some (.ref f16)))
    (l16 : K.lookup f16 = some ⟨oc16, od16, .func (PySem.W.fnOf "_law_whole" "_law_whole" (defArgs s_law_whole) (defBody s_law_whole) (defScope s_law_whole) .none kV16 dc16 pm16 an16 cd16 ct16), sl16⟩) (c16 : PySem.W.codeIn K cd16 "_law_whole" = true) (k16 : PySem.W.keepIn K (.ref f16) = true)
    (a17 : PySem.W.nsIn K mainGlobals "decode_number" = some (some (.ref f17)))
    (l17 : K.lookup f17 = some ⟨oc17, od17, .func (PySem.W.fnOf "decode_number" "decode_number" (defArgs s_decode_number) (defBody s_decode_number) (defScope s_decode_number) .none kV17 dc17 pm17 an17 cd17 ct17), sl17⟩) (c17 : PySem.W.codeIn K cd17 "decode_number" = true) (k17 : PySem.W.keepIn K (.ref f17) = true)
    (a18 : PySem.W.nsIn K mainGlobals "_law_outcome" = some (some (.ref f18)))
    (l18 : K.lookup f18 = some ⟨oc18, od18, .func (PySem.W.fnOf "_law_outcome" "_law_outcome" (defArgs s_law_outcome) (defBody s_law_outcome) (defScope s_law_outcome) .none kV18 dc18 pm18 an18 cd18 ct18), sl18⟩) (c18 : PySem.W.codeIn K cd18 "_law_outcome" = true) (k18 : PySem.W.keepIn K (.ref f18) = true)
    (a19 : PySem.W.nsIn K mainGlobals "_law_read_at" = some (some (.ref f19)))
    (l19 : K.lookup f19 = some ⟨oc19, od19, .func (PySem.W.fnOf "_law_read_at" "_law_read_at" (defArgs s_law_read_at) (defBody s_law_read_at) (defScope s_law_read_at) .none kV19 dc19 pm19 an19 cd19 ct19), sl19⟩) (c19 : PySem.W.codeIn K cd19 "_law_read_at" = true) (k19 : PySem.W.keepIn K (.ref f19) = true)
    (a20 : PySem.W.nsIn K mainGlobals "law" = some (some (.ref f20)))
    (l20 : K.lookup f20 = some ⟨oc20, od20, .func (PySem.W.fnOf "law" "law" (defArgs s_law) (defBody s_law) (defScope s_law) .none kV20 dc20 pm20 an20 cd20 ct20), sl20⟩) (c20 : PySem.W.codeIn K cd20 "law" = true) (k20 : PySem.W.keepIn K (.ref f20) = true)
    (z0 : PySem.W.nsIn K mainGlobals "ValueError" = some none)
    (z1 : PySem.W.nsIn K mainGlobals "bool" = some none)
    (z2 : PySem.W.nsIn K mainGlobals "int" = some none)
    (z3 : PySem.W.nsIn K mainGlobals "isinstance" = some none)
    (z4 : PySem.W.nsIn K mainGlobals "len" = some none)
    (z5 : PySem.W.nsIn K mainGlobals "list" = some none)
    (z6 : PySem.W.nsIn K mainGlobals "range" = some none)
    (z7 : PySem.W.nsIn K mainGlobals "reversed" = some none)
    (z8 : PySem.W.nsIn K mainGlobals "tuple" = some none)
    {gt0 : Tok} (y0 : PySem.W.nsIn K mainGlobals "GROUP" = some (some (.int (128) gt0)))
    {gt1 : Tok} (y1 : PySem.W.nsIn K mainGlobals "MOST_OCTETS" = some (some (.int (5) gt1)))
    : ∃ fd : FuncData, (∀ (s : Shared) (v : Value), BindsTo s fd ⟨[v], []⟩ [("script", v)]) ∧ ∀ base : Heap, K.In base → base.Ns mainGlobals mg → FnOk l.prog w K mg base (L2N.CX l.prog w) 13 fa fd ["script"] (spL K) := by
  have e := hfa.symm.trans (PySem.W.mg_of X G a20)
  cases e
  have T : Tx K w mg (fun c => ([("BadCode", E1), ("BadProgram", E2), ("BadText", E3), ("Refused", E4), ("BadArguments", E5), ("BadPicture", E6), ("BadImage", E7), ("NoRoom", E8), ("NoObject", E9)] : List (Str × Addr)).lookup c) := ⟨trivial, PySem.W.mg_none_of X G z0, PySem.W.mg_none_of X G z1, PySem.W.mg_none_of X G z2, PySem.W.mg_none_of X G z3, PySem.W.mg_none_of X G z4, PySem.W.mg_none_of X G z5, PySem.W.mg_none_of X G z6, PySem.W.mg_none_of X G z7, PySem.W.mg_none_of X G z8, ⟨⟨_, .int (128), PySem.W.mg_of X G y0, ⟨_, rfl⟩, .int _⟩⟩, ⟨⟨_, .int (5), PySem.W.mg_of X G y1, ⟨_, rfl⟩, .int _⟩⟩, ⟨_, PySem.W.mg_of X G xt1, (.cons rfl ⟨xd1, xe1, xj1, xl1, xp1, v2, v3, xs1⟩ xo1_1 (.cons rfl ⟨xd2, xe2, xj2, xl2, xp2, v2, v3, xs2⟩ xo2_1 (.cons rfl ⟨xd3, xe3, xj3, xl3, xp3, v2, v3, xs3⟩ xo3_1 (.cons rfl ⟨xd4, xe4, xj4, xl4, xp4, v2, v3, xs4⟩ xo4_1 (.cons rfl ⟨xd5, xe5, xj5, xl5, xp5, v2, v3, xs5⟩ xo5_1 (.cons rfl ⟨xd6, xe6, xj6, xl6, xp6, v2, v3, xs6⟩ xo6_1 (.cons rfl ⟨xd7, xe7, xj7, xl7, xp7, v2, v3, xs7⟩ xo7_1 (.cons rfl ⟨xd8, xe8, xj8, xl8, xp8, v2, v3, xs8⟩ xo8_1 (.cons rfl ⟨xd9, xe9, xj9, xl9, xp9, v2, v3, xs9⟩ xo9_1 IsT.nil)))))))))⟩, ⟨_, PySem.W.mg_of X G xt2, (.cons rfl ⟨xd1, xe1, xj1, xl1, xp1, v2, v3, xs1⟩ xo1_2 (.cons rfl ⟨xd2, xe2, xj2, xl2, xp2, v2, v3, xs2⟩ xo2_2 (.cons rfl ⟨xd3, xe3, xj3, xl3, xp3, v2, v3, xs3⟩ xo3_2 (.cons rfl ⟨xd4, xe4, xj4, xl4, xp4, v2, v3, xs4⟩ xo4_2 (.cons rfl ⟨xd5, xe5, xj5, xl5, xp5, v2, v3, xs5⟩ xo5_2 (.cons rfl ⟨xd6, xe6, xj6, xl6, xp6, v2, v3, xs6⟩ xo6_2 (.cons rfl ⟨xd7, xe7, xj7, xl7, xp7, v2, v3, xs7⟩ xo7_2 (.cons rfl ⟨xd8, xe8, xj8, xl8, xp8, v2, v3, xs8⟩ xo8_2 (.cons rfl ⟨xd9, xe9, xj9, xl9, xp9, v2, v3, xs9⟩ xo9_2 IsT.nil)))))))))⟩, ⟨_, PySem.W.mg_of X G xt3, (.cons rfl ⟨xd1, xe1, xj1, xl1, xp1, v2, v3, xs1⟩ xo1_3 (.cons rfl ⟨xd2, xe2, xj2, xl2, xp2, v2, v3, xs2⟩ xo2_3 (.cons rfl ⟨xd3, xe3, xj3, xl3, xp3, v2, v3, xs3⟩ xo3_3 (.cons rfl ⟨xd4, xe4, xj4, xl4, xp4, v2, v3, xs4⟩ xo4_3 (.cons rfl ⟨xd5, xe5, xj5, xl5, xp5, v2, v3, xs5⟩ xo5_3 (.cons rfl ⟨xd6, xe6, xj6, xl6, xp6, v2, v3, xs6⟩ xo6_3 (.cons rfl ⟨xd7, xe7, xj7, xl7, xp7, v2, v3, xs7⟩ xo7_3 (.cons rfl ⟨xd8, xe8, xj8, xl8, xp8, v2, v3, xs8⟩ xo8_3 (.cons rfl ⟨xd9, xe9, xj9, xl9, xp9, v2, v3, xs9⟩ xo9_3 IsT.nil)))))))))⟩, ⟨_, PySem.W.mg_of X G xt4, (.cons rfl ⟨xd1, xe1, xj1, xl1, xp1, v2, v3, xs1⟩ xo1_4 (.cons rfl ⟨xd2, xe2, xj2, xl2, xp2, v2, v3, xs2⟩ xo2_4 (.cons rfl ⟨xd3, xe3, xj3, xl3, xp3, v2, v3, xs3⟩ xo3_4 (.cons rfl ⟨xd4, xe4, xj4, xl4, xp4, v2, v3, xs4⟩ xo4_4 (.cons rfl ⟨xd5, xe5, xj5, xl5, xp5, v2, v3, xs5⟩ xo5_4 (.cons rfl ⟨xd6, xe6, xj6, xl6, xp6, v2, v3, xs6⟩ xo6_4 (.cons rfl ⟨xd7, xe7, xj7, xl7, xp7, v2, v3, xs7⟩ xo7_4 (.cons rfl ⟨xd8, xe8, xj8, xl8, xp8, v2, v3, xs8⟩ xo8_4 (.cons rfl ⟨xd9, xe9, xj9, xl9, xp9, v2, v3, xs9⟩ xo9_4 IsT.nil)))))))))⟩, ⟨_, PySem.W.mg_of X G xt5, (.cons rfl ⟨xd1, xe1, xj1, xl1, xp1, v2, v3, xs1⟩ xo1_5 (.cons rfl ⟨xd2, xe2, xj2, xl2, xp2, v2, v3, xs2⟩ xo2_5 (.cons rfl ⟨xd3, xe3, xj3, xl3, xp3, v2, v3, xs3⟩ xo3_5 (.cons rfl ⟨xd4, xe4, xj4, xl4, xp4, v2, v3, xs4⟩ xo4_5 (.cons rfl ⟨xd5, xe5, xj5, xl5, xp5, v2, v3, xs5⟩ xo5_5 (.cons rfl ⟨xd6, xe6, xj6, xl6, xp6, v2, v3, xs6⟩ xo6_5 (.cons rfl ⟨xd7, xe7, xj7, xl7, xp7, v2, v3, xs7⟩ xo7_5 (.cons rfl ⟨xd8, xe8, xj8, xl8, xp8, v2, v3, xs8⟩ xo8_5 (.cons rfl ⟨xd9, xe9, xj9, xl9, xp9, v2, v3, xs9⟩ xo9_5 IsT.nil)))))))))⟩, ⟨_, PySem.W.mg_of X G xt6, (.cons rfl ⟨xd1, xe1, xj1, xl1, xp1, v2, v3, xs1⟩ xo1_6 (.cons rfl ⟨xd2, xe2, xj2, xl2, xp2, v2, v3, xs2⟩ xo2_6 (.cons rfl ⟨xd3, xe3, xj3, xl3, xp3, v2, v3, xs3⟩ xo3_6 (.cons rfl ⟨xd4, xe4, xj4, xl4, xp4, v2, v3, xs4⟩ xo4_6 (.cons rfl ⟨xd5, xe5, xj5, xl5, xp5, v2, v3, xs5⟩ xo5_6 (.cons rfl ⟨xd6, xe6, xj6, xl6, xp6, v2, v3, xs6⟩ xo6_6 (.cons rfl ⟨xd7, xe7, xj7, xl7, xp7, v2, v3, xs7⟩ xo7_6 (.cons rfl ⟨xd8, xe8, xj8, xl8, xp8, v2, v3, xs8⟩ xo8_6 (.cons rfl ⟨xd9, xe9, xj9, xl9, xp9, v2, v3, xs9⟩ xo9_6 IsT.nil)))))))))⟩, ⟨_, PySem.W.mg_of X G xt7, (.cons rfl ⟨xd1, xe1, xj1, xl1, xp1, v2, v3, xs1⟩ xo1_7 (.cons rfl ⟨xd2, xe2, xj2, xl2, xp2, v2, v3, xs2⟩ xo2_7 (.cons rfl ⟨xd3, xe3, xj3, xl3, xp3, v2, v3, xs3⟩ xo3_7 (.cons rfl ⟨xd4, xe4, xj4, xl4, xp4, v2, v3, xs4⟩ xo4_7 (.cons rfl ⟨xd5, xe5, xj5, xl5, xp5, v2, v3, xs5⟩ xo5_7 (.cons rfl ⟨xd6, xe6, xj6, xl6, xp6, v2, v3, xs6⟩ xo6_7 (.cons rfl ⟨xd7, xe7, xj7, xl7, xp7, v2, v3, xs7⟩ xo7_7 (.cons rfl ⟨xd8, xe8, xj8, xl8, xp8, v2, v3, xs8⟩ xo8_7 (.cons rfl ⟨xd9, xe9, xj9, xl9, xp9, v2, v3, xs9⟩ xo9_7 IsT.nil)))))))))⟩, ⟨_, PySem.W.mg_of X G xt8, (.cons rfl ⟨xd1, xe1, xj1, xl1, xp1, v2, v3, xs1⟩ xo1_8 (.cons rfl ⟨xd2, xe2, xj2, xl2, xp2, v2, v3, xs2⟩ xo2_8 (.cons rfl ⟨xd3, xe3, xj3, xl3, xp3, v2, v3, xs3⟩ xo3_8 (.cons rfl ⟨xd4, xe4, xj4, xl4, xp4, v2, v3, xs4⟩ xo4_8 (.cons rfl ⟨xd5, xe5, xj5, xl5, xp5, v2, v3, xs5⟩ xo5_8 (.cons rfl ⟨xd6, xe6, xj6, xl6, xp6, v2, v3, xs6⟩ xo6_8 (.cons rfl ⟨xd7, xe7, xj7, xl7, xp7, v2, v3, xs7⟩ xo7_8 (.cons rfl ⟨xd8, xe8, xj8, xl8, xp8, v2, v3, xs8⟩ xo8_8 (.cons rfl ⟨xd9, xe9, xj9, xl9, xp9, v2, v3, xs9⟩ xo9_8 IsT.nil)))))))))⟩, ⟨_, PySem.W.mg_of X G xt9, (.cons rfl ⟨xd1, xe1, xj1, xl1, xp1, v2, v3, xs1⟩ xo1_9 (.cons rfl ⟨xd2, xe2, xj2, xl2, xp2, v2, v3, xs2⟩ xo2_9 (.cons rfl ⟨xd3, xe3, xj3, xl3, xp3, v2, v3, xs3⟩ xo3_9 (.cons rfl ⟨xd4, xe4, xj4, xl4, xp4, v2, v3, xs4⟩ xo4_9 (.cons rfl ⟨xd5, xe5, xj5, xl5, xp5, v2, v3, xs5⟩ xo5_9 (.cons rfl ⟨xd6, xe6, xj6, xl6, xp6, v2, v3, xs6⟩ xo6_9 (.cons rfl ⟨xd7, xe7, xj7, xl7, xp7, v2, v3, xs7⟩ xo7_9 (.cons rfl ⟨xd8, xe8, xj8, xl8, xp8, v2, v3, xs8⟩ xo8_9 (.cons rfl ⟨xd9, xe9, xj9, xl9, xp9, v2, v3, xs9⟩ xo9_9 IsT.nil)))))))))⟩, ⟨_, PySem.W.mg_of X G xt10, (.cons rfl ⟨xd1, xe1, xj1, xl1, xp1, v2, v3, xs1⟩ xo1_10 (.cons rfl ⟨xd2, xe2, xj2, xl2, xp2, v2, v3, xs2⟩ xo2_10 (.cons rfl ⟨xd3, xe3, xj3, xl3, xp3, v2, v3, xs3⟩ xo3_10 (.cons rfl ⟨xd4, xe4, xj4, xl4, xp4, v2, v3, xs4⟩ xo4_10 (.cons rfl ⟨xd5, xe5, xj5, xl5, xp5, v2, v3, xs5⟩ xo5_10 (.cons rfl ⟨xd6, xe6, xj6, xl6, xp6, v2, v3, xs6⟩ xo6_10 (.cons rfl ⟨xd7, xe7, xj7, xl7, xp7, v2, v3, xs7⟩ xo7_10 (.cons rfl ⟨xd8, xe8, xj8, xl8, xp8, v2, v3, xs8⟩ xo8_10 (.cons rfl ⟨xd9, xe9, xj9, xl9, xp9, v2, v3, xs9⟩ xo9_10 IsT.nil)))))))))⟩, (.cons rfl ⟨xd1, xe1, xj1, xl1, xp1, v2, v3, xs1⟩ xo1_ValueError (.cons rfl ⟨xd2, xe2, xj2, xl2, xp2, v2, v3, xs2⟩ xo2_ValueError (.cons rfl ⟨xd3, xe3, xj3, xl3, xp3, v2, v3, xs3⟩ xo3_ValueError (.cons rfl ⟨xd4, xe4, xj4, xl4, xp4, v2, v3, xs4⟩ xo4_ValueError (.cons rfl ⟨xd5, xe5, xj5, xl5, xp5, v2, v3, xs5⟩ xo5_ValueError (.cons rfl ⟨xd6, xe6, xj6, xl6, xp6, v2, v3, xs6⟩ xo6_ValueError (.cons rfl ⟨xd7, xe7, xj7, xl7, xp7, v2, v3, xs7⟩ xo7_ValueError (.cons rfl ⟨xd8, xe8, xj8, xl8, xp8, v2, v3, xs8⟩ xo8_ValueError (.cons rfl ⟨xd9, xe9, xj9, xl9, xp9, v2, v3, xs9⟩ xo9_ValueError IsT.nil))))))))), ⟨[_, _, _, _, _, _, _, _], ⟨PySem.W.mg_of X G xt5, ⟨PySem.W.mg_of X G xt6, ⟨PySem.W.mg_of X G xt10, ⟨PySem.W.mg_of X G xt1, ⟨PySem.W.mg_of X G xt4, ⟨PySem.W.mg_of X G xt3, ⟨PySem.W.mg_of X G xt8, ⟨PySem.W.mg_of X G xt7, trivial⟩⟩⟩⟩⟩⟩⟩⟩, (ItL.cons rfl ⟨xd1, xe1, xj1, xl1, xp1, v2, v3, xs1⟩ xq1_BadProgram_BadText_Refused_BadArguments_BadPicture_BadImage_NoRoom_NoObject (ItL.cons rfl ⟨xd2, xe2, xj2, xl2, xp2, v2, v3, xs2⟩ xq2_BadProgram_BadText_Refused_BadArguments_BadPicture_BadImage_NoRoom_NoObject (ItL.cons rfl ⟨xd3, xe3, xj3, xl3, xp3, v2, v3, xs3⟩ xq3_BadProgram_BadText_Refused_BadArguments_BadPicture_BadImage_NoRoom_NoObject (ItL.cons rfl ⟨xd4, xe4, xj4, xl4, xp4, v2, v3, xs4⟩ xq4_BadProgram_BadText_Refused_BadArguments_BadPicture_BadImage_NoRoom_NoObject (ItL.cons rfl ⟨xd5, xe5, xj5, xl5, xp5, v2, v3, xs5⟩ xq5_BadProgram_BadText_Refused_BadArguments_BadPicture_BadImage_NoRoom_NoObject (ItL.cons rfl ⟨xd6, xe6, xj6, xl6, xp6, v2, v3, xs6⟩ xq6_BadProgram_BadText_Refused_BadArguments_BadPicture_BadImage_NoRoom_NoObject (ItL.cons rfl ⟨xd7, xe7, xj7, xl7, xp7, v2, v3, xs7⟩ xq7_BadProgram_BadText_Refused_BadArguments_BadPicture_BadImage_NoRoom_NoObject (ItL.cons rfl ⟨xd8, xe8, xj8, xl8, xp8, v2, v3, xs8⟩ xq8_BadProgram_BadText_Refused_BadArguments_BadPicture_BadImage_NoRoom_NoObject (ItL.cons rfl ⟨xd9, xe9, xj9, xl9, xp9, v2, v3, xs9⟩ xq9_BadProgram_BadText_Refused_BadArguments_BadPicture_BadImage_NoRoom_NoObject ItL.nil)))))))))⟩, (.cons rfl ⟨xd1, xe1, xj1, xl1⟩ xf1_at .nil), (.cons rfl ⟨xd3, xe3, xj3, xl3⟩ xf3_line (.cons rfl ⟨xd7, xe7, xj7, xl7⟩ xf7_line .nil)), (.cons rfl ⟨xd2, xe2, xj2, xl2⟩ xf2_number (.cons rfl ⟨xd4, xe4, xj4, xl4⟩ xf4_number (.cons rfl ⟨xd6, xe6, xj6, xl6⟩ xf6_number (.cons rfl ⟨xd9, xe9, xj9, xl9⟩ xf9_number .nil)))), (.cons rfl ⟨xd4, xe4, xj4, xl4⟩ xf4_other .nil), (.cons rfl ⟨xd2, xe2, xj2, xl2⟩ xf2_part (.cons rfl ⟨xd6, xe6, xj6, xl6⟩ xf6_part .nil)), (.cons rfl ⟨xd2, xe2, xj2, xl2⟩ xf2_place .nil), (.cons rfl ⟨xd4, xe4, xj4, xl4⟩ xf4_walk .nil), (.cons rfl ⟨xd2, xe2, xj2, xl2⟩ xf2_why (.cons rfl ⟨xd3, xe3, xj3, xl3⟩ xf3_why (.cons rfl ⟨xd4, xe4, xj4, xl4⟩ xf4_why (.cons rfl ⟨xd6, xe6, xj6, xl6⟩ xf6_why (.cons rfl ⟨xd7, xe7, xj7, xl7⟩ xf7_why .nil))))), (.cons rfl ⟨xd8, xe8, xj8, xl8⟩ xf8_words .nil), ⟨_, PySem.W.mg_of X G xh1, (.cons rfl (PySem.W.exm_ref xu1 xv1 xw1 xy1_1) .nil)⟩⟩
  have D1 : Df K mg "_law_cell" s_law_cell _ _ := ⟨fun_mk (st := s_law_cell) l1 c1 k1, PySem.W.mg_of X G a1⟩
  have D2 : Df K mg "_law_digits" s_law_digits _ _ := ⟨fun_mk (st := s_law_digits) l2 c2 k2, PySem.W.mg_of X G a2⟩
  have D3 : Df K mg "_law_classes" s_law_classes _ _ := ⟨fun_mk (st := s_law_classes) l3 c3 k3, PySem.W.mg_of X G a3⟩
  have D4 : Df K mg "_law_apart" s_law_apart _ _ := ⟨fun_mk (st := s_law_apart) l4 c4 k4, PySem.W.mg_of X G a4⟩
  have D5 := fun_mk (st := s_BadProgram_init) l5 c5 k5
  have D6 := fun_mk (st := s_BadText_init) l6 c6 k6
  have D7 := fun_mk (st := s_BadCode_init) l7 c7 k7
  have D8 : Df K mg "frozen" s_frozen _ _ := ⟨fun_mk (st := s_frozen) l8 c8 k8, PySem.W.mg_of X G a8⟩
  have D9 := fun_mk (st := s_Refused_init) l9 c9 k9
  have D10 : Df K mg "_law_errors_kept" s_law_errors_kept _ _ := ⟨fun_mk (st := s_law_errors_kept) l10 c10 k10, PySem.W.mg_of X G a10⟩
  have D11 := fun_mk (st := s_BadPicture_init) l11 c11 k11
  have D12 := fun_mk (st := s_BadImage_init) l12 c12 k12
  have D13 := fun_mk (st := s_NoRoom_init) l13 c13 k13
  have D14 := fun_mk (st := s_NoObject_init) l14 c14 k14
  have D15 : Df K mg "_law_more_errors_kept" s_law_more_errors_kept _ _ := ⟨fun_mk (st := s_law_more_errors_kept) l15 c15 k15, PySem.W.mg_of X G a15⟩
  have D16 : Df K mg "_law_whole" s_law_whole _ _ := ⟨fun_mk (st := s_law_whole) l16 c16 k16, PySem.W.mg_of X G a16⟩
  have D17 : Df K mg "decode_number" s_decode_number _ _ := ⟨fun_mk (st := s_decode_number) l17 c17 k17, PySem.W.mg_of X G a17⟩
  have D18 : Df K mg "_law_outcome" s_law_outcome _ _ := ⟨fun_mk (st := s_law_outcome) l18 c18 k18, PySem.W.mg_of X G a18⟩
  have D19 : Df K mg "_law_read_at" s_law_read_at _ _ := ⟨fun_mk (st := s_law_read_at) l19 c19 k19, PySem.W.mg_of X G a19⟩
  have D20 : Df K mg "law" s_law _ _ := ⟨fun_mk (st := s_law) l20 c20 k20, PySem.W.mg_of X G a20⟩
  refine ⟨PySem.W.fnOf "law" "law" (defArgs s_law) (defBody s_law) (defScope s_law) .none kV20 dc20 pm20 an20 cd20 ct20, fun s v => .of_eq rfl, fun base _ _ => ?_⟩
  have RX0_BadArguments : RaX0 K mg (fun c => ([("BadCode", E1), ("BadProgram", E2), ("BadText", E3), ("Refused", E4), ("BadArguments", E5), ("BadPicture", E6), ("BadImage", E7), ("NoRoom", E8), ("NoObject", E9)] : List (Str × Addr)).lookup c) "BadArguments" := ⟨⟨E5, xz5, xi5, PySem.W.mg_of X G xa5, rfl⟩⟩
  have C_law_cell := ca_law_cell (P := l.prog) (w := w) (base := base) T D1
  have C_law_digits := ca_law_digits (P := l.prog) (w := w) (base := base) T D2
  have C_law_classes := ca_law_classes (P := l.prog) (w := w) (base := base) T D3
  have C_law_apart := ca_law_apart (P := l.prog) (w := w) (base := base) T C_law_classes D4
  have X5 := fn_BadProgram_init (P := l.prog) (w := w) (base := base) T xf2_part xf2_number xf2_place xf2_why D5
  have RXK_BadProgram_part_number_place_why : RaXK l.prog w K mg base _ 1 "BadProgram" ["self", "part", "number", "place", "why"] ["part", "number", "place", "why"] [0, 1, 2, 3] g_BadProgram_init := ⟨⟨E2, _, _, ⟨⟨_, _, _, _, _, _, _, _, _, _, _, _, _, _, _, xb2, xr2⟩, xc2, xj2, xk2, xi2⟩, a5, i5, X5, PySem.W.mg_of X G xa2, rfl, kw_of D5 (fun _ _ _ _ _ _ us ws h1 h2 => match us, ws, h1, h2 with | [_], [_, _, _, _], _, _ => rfl)⟩⟩
  have X6 := fn_BadText_init (P := l.prog) (w := w) (base := base) T xf3_line xf3_why D6
  have RXK_BadText_line_why : RaXK l.prog w K mg base _ 1 "BadText" ["self", "line", "why"] ["line", "why"] [0, 1] g_BadText_init := ⟨⟨E3, _, _, ⟨⟨_, _, _, _, _, _, _, _, _, _, _, _, _, _, _, xb3, xr3⟩, xc3, xj3, xk3, xi3⟩, a6, i6, X6, PySem.W.mg_of X G xa3, rfl, kw_of D6 (fun _ _ _ _ _ _ us ws h1 h2 => match us, ws, h1, h2 with | [_], [_, _], _, _ => rfl)⟩⟩
  have X7 := fn_BadCode_init (P := l.prog) (w := w) (base := base) T xf1_at D7
  have RXK_BadCode_at : RaXK l.prog w K mg base _ 1 "BadCode" ["self", "at"] ["at"] [0] g_BadCode_init := ⟨⟨E1, _, _, ⟨⟨_, _, _, _, _, _, _, _, _, _, _, _, _, _, _, xb1, xr1⟩, xc1, xj1, xk1, xi1⟩, a7, i7, X7, PySem.W.mg_of X G xa1, rfl, kw_of D7 (fun _ _ _ _ _ _ us ws h1 h2 => match us, ws, h1, h2 with | [_], [_], _, _ => rfl)⟩⟩
  have RA_BadCode : RaX l.prog w K mg base _ 1 "BadCode" ["self", "at"] g_BadCode_init := ⟨⟨E1, _, _, ⟨⟨_, _, _, _, _, _, _, _, _, _, _, _, _, _, _, xb1, xr1⟩, xc1, xj1, xk1, xi1⟩, a7, i7, X7, PySem.W.mg_of X G xa1, rfl, D7.binds (fun _ _ _ _ _ _ us hl => match us, hl with | [_, _], _ => rfl)⟩⟩
  have C_frozen := ca_frozen (P := l.prog) (w := w) (base := base) T D8
  have X9 := fn_Refused_init (P := l.prog) (w := w) (base := base) T C_frozen xf4_number xf4_why xf4_walk xf4_other D9
  have RXK_Refused_number_why_walk_other : RaXK l.prog w K mg base _ 10 "Refused" ["self", "number", "why", "walk", "other"] ["number", "why", "walk", "other"] [0, 1, 2, 3] g_Refused_init := ⟨⟨E4, _, _, ⟨⟨_, _, _, _, _, _, _, _, _, _, _, _, _, _, _, xb4, xr4⟩, xc4, xj4, xk4, xi4⟩, a9, i9, X9, PySem.W.mg_of X G xa4, rfl, kw_of D9 (fun _ _ _ _ _ _ us ws h1 h2 => match us, ws, h1, h2 with | [_], [_, _, _, _], _, _ => rfl)⟩⟩
  have C_law_errors_kept := ca_law_errors_kept (P := l.prog) (w := w) (base := base) T C_law_apart RXK_BadProgram_part_number_place_why RXK_BadText_line_why RXK_BadCode_at RXK_Refused_number_why_walk_other D10
  have X11 := fn_BadPicture_init (P := l.prog) (w := w) (base := base) T xf6_part xf6_number xf6_why D11
  have RXK_BadPicture_part_number_why : RaXK l.prog w K mg base _ 1 "BadPicture" ["self", "part", "number", "why"] ["part", "number", "why"] [0, 1, 2] g_BadPicture_init := ⟨⟨E6, _, _, ⟨⟨_, _, _, _, _, _, _, _, _, _, _, _, _, _, _, xb6, xr6⟩, xc6, xj6, xk6, xi6⟩, a11, i11, X11, PySem.W.mg_of X G xa6, rfl, kw_of D11 (fun _ _ _ _ _ _ us ws h1 h2 => match us, ws, h1, h2 with | [_], [_, _, _], _, _ => rfl)⟩⟩
  have X12 := fn_BadImage_init (P := l.prog) (w := w) (base := base) T xf7_line xf7_why D12
  have RXK_BadImage_line_why : RaXK l.prog w K mg base _ 1 "BadImage" ["self", "line", "why"] ["line", "why"] [0, 1] g_BadImage_init := ⟨⟨E7, _, _, ⟨⟨_, _, _, _, _, _, _, _, _, _, _, _, _, _, _, xb7, xr7⟩, xc7, xj7, xk7, xi7⟩, a12, i12, X12, PySem.W.mg_of X G xa7, rfl, kw_of D12 (fun _ _ _ _ _ _ us ws h1 h2 => match us, ws, h1, h2 with | [_], [_, _], _, _ => rfl)⟩⟩
  have X13 := fn_NoRoom_init (P := l.prog) (w := w) (base := base) T xf8_words D13
  have RXK_NoRoom_words : RaXK l.prog w K mg base _ 1 "NoRoom" ["self", "words"] ["words"] [0] g_NoRoom_init := ⟨⟨E8, _, _, ⟨⟨_, _, _, _, _, _, _, _, _, _, _, _, _, _, _, xb8, xr8⟩, xc8, xj8, xk8, xi8⟩, a13, i13, X13, PySem.W.mg_of X G xa8, rfl, kw_of D13 (fun _ _ _ _ _ _ us ws h1 h2 => match us, ws, h1, h2 with | [_], [_], _, _ => rfl)⟩⟩
  have X14 := fn_NoObject_init (P := l.prog) (w := w) (base := base) T xf9_number D14
  have RXK_NoObject_number : RaXK l.prog w K mg base _ 1 "NoObject" ["self", "number"] ["number"] [0] g_NoObject_init := ⟨⟨E9, _, _, ⟨⟨_, _, _, _, _, _, _, _, _, _, _, _, _, _, _, xb9, xr9⟩, xc9, xj9, xk9, xi9⟩, a14, i14, X14, PySem.W.mg_of X G xa9, rfl, kw_of D14 (fun _ _ _ _ _ _ us ws h1 h2 => match us, ws, h1, h2 with | [_], [_], _, _ => rfl)⟩⟩
  have C_law_more_errors_kept := ca_law_more_errors_kept (P := l.prog) (w := w) (base := base) T C_law_apart RX0_BadArguments RXK_BadPicture_part_number_why RXK_BadImage_line_why RXK_NoRoom_words RXK_NoObject_number D15
  have C_law_whole := ca_law_whole (P := l.prog) (w := w) (base := base) T D16
  have S_law_whole := sa_law_whole (P := l.prog) (w := w) (base := base) T D16
  have C_decode_number := ca_decode_number (P := l.prog) (w := w) (base := base) T RA_BadCode D17
  have C_law_outcome := ca_law_outcome (P := l.prog) (w := w) (base := base) T C_law_whole C_decode_number S_law_whole D18
  have C_law_read_at := ca_law_read_at (P := l.prog) (w := w) (base := base) T D19
  exact ok_law (P := l.prog) (w := w) (base := base) T C_law_cell C_law_digits C_law_errors_kept C_law_more_errors_kept C_law_outcome C_law_read_at D20
end Lw
open PySem PySem.W PyProof.Rows
set_option maxHeartbeats 0 in
theorem PySem.Challenge.cw_quietbroom_k14_octets_cut_holds : PySem.Challenge.rw_quietbroom_k14_octets_cut.Holds := by
  w_on; o_law; k_head; (case hw => w_witness2)
  k_fill
  refine L2.walk_ofB (l := PySem.Challenge.rw_quietbroom_k14_octets_cut) (n := 63) (k := 13) (x := "script") (CX := fun w => L2N.CX (PySem.Challenge.rw_quietbroom_k14_octets_cut).prog w) (sp := fun w => Vf.spL _) rfl (by decide) rfl ⟨rfl, by decide, by decide⟩ (fun w h Y => PySem.W.kIn_of Y) ?F (fun _ _ a ns hl hb _ hS => Vf.spL_start ⟨hl, hb⟩ hS) (fun _ H s e s' z => Vf.cx_false H s e s' z)
  case F =>
    intro w mg fa h KX G hmg
    refine' Lw.all_mk KX G hmg ?xa1 ?xb1 ?xr1 ?xc1 ?xd1 ?xe1 ?xi1 ?xj1 ?xk1 ?xl1 ?xp1 ?xs1 ?xf1_at ?xa2 ?xb2 ?xr2 ?xc2 ?xd2 ?xe2 ?xi2 ?xj2 ?xk2 ?xl2 ?xp2 ?xs2 ?xf2_part ?xf2_number ?xf2_place ?xf2_why ?xa3 ?xb3 ?xr3 ?xc3 ?xd3 ?xe3 ?xi3 ?xj3 ?xk3 ?xl3 ?xp3 ?xs3 ?xf3_line ?xf3_why ?xa4 ?xb4 ?xr4 ?xc4 ?xd4 ?xe4 ?xi4 ?xj4 ?xk4 ?xl4 ?xp4 ?xs4 ?xf4_number ?xf4_why ?xf4_walk ?xf4_other ?xa5 ?xb5 ?xr5 ?xc5 ?xd5 ?xe5 ?xi5 ?xj5 ?xk5 ?xl5 ?xp5 ?xs5 ?xz5 ?xa6 ?xb6 ?xr6 ?xc6 ?xd6 ?xe6 ?xi6 ?xj6 ?xk6 ?xl6 ?xp6 ?xs6 ?xf6_part ?xf6_number ?xf6_why ?xa7 ?xb7 ?xr7 ?xc7 ?xd7 ?xe7 ?xi7 ?xj7 ?xk7 ?xl7 ?xp7 ?xs7 ?xf7_line ?xf7_why ?xa8 ?xb8 ?xr8 ?xc8 ?xd8 ?xe8 ?xi8 ?xj8 ?xk8 ?xl8 ?xp8 ?xs8 ?xf8_words ?xa9 ?xb9 ?xr9 ?xc9 ?xd9 ?xe9 ?xi9 ?xj9 ?xk9 ?xl9 ?xp9 ?xs9 ?xf9_number ?xt1 ?xo1_1 ?xo2_1 ?xo3_1 ?xo4_1 ?xo5_1 ?xo6_1 ?xo7_1 ?xo8_1 ?xo9_1 ?xt2 ?xo1_2 ?xo2_2 ?xo3_2 ?xo4_2 ?xo5_2 ?xo6_2 ?xo7_2 ?xo8_2 ?xo9_2 ?xt3 ?xo1_3 ?xo2_3 ?xo3_3 ?xo4_3 ?xo5_3 ?xo6_3 ?xo7_3 ?xo8_3 ?xo9_3 ?xt4 ?xo1_4 ?xo2_4 ?xo3_4 ?xo4_4 ?xo5_4 ?xo6_4 ?xo7_4 ?xo8_4 ?xo9_4 ?xt5 ?xo1_5 ?xo2_5 ?xo3_5 ?xo4_5 ?xo5_5 ?xo6_5 ?xo7_5 ?xo8_5 ?xo9_5 ?xt6 ?xo1_6 ?xo2_6 ?xo3_6 ?xo4_6 ?xo5_6 ?xo6_6 ?xo7_6 ?xo8_6 ?xo9_6 ?xt7 ?xo1_7 ?xo2_7 ?xo3_7 ?xo4_7 ?xo5_7 ?xo6_7 ?xo7_7 ?xo8_7 ?xo9_7 ?xt8 ?xo1_8 ?xo2_8 ?xo3_8 ?xo4_8 ?xo5_8 ?xo6_8 ?xo7_8 ?xo8_8 ?xo9_8 ?xt9 ?xo1_9 ?xo2_9 ?xo3_9 ?xo4_9 ?xo5_9 ?xo6_9 ?xo7_9 ?xo8_9 ?xo9_9 ?xt10 ?xo1_10 ?xo2_10 ?xo3_10 ?xo4_10 ?xo5_10 ?xo6_10 ?xo7_10 ?xo8_10 ?xo9_10 ?xq1_BadProgram_BadText_Refused_BadArguments_BadPicture_BadImage_NoRoom_NoObject ?xq2_BadProgram_BadText_Refused_BadArguments_BadPicture_BadImage_NoRoom_NoObject ?xq3_BadProgram_BadText_Refused_BadArguments_BadPicture_BadImage_NoRoom_NoObject ?xq4_BadProgram_BadText_Refused_BadArguments_BadPicture_BadImage_NoRoom_NoObject ?xq5_BadProgram_BadText_Refused_BadArguments_BadPicture_BadImage_NoRoom_NoObject ?xq6_BadProgram_BadText_Refused_BadArguments_BadPicture_BadImage_NoRoom_NoObject ?xq7_BadProgram_BadText_Refused_BadArguments_BadPicture_BadImage_NoRoom_NoObject ?xq8_BadProgram_BadText_Refused_BadArguments_BadPicture_BadImage_NoRoom_NoObject ?xq9_BadProgram_BadText_Refused_BadArguments_BadPicture_BadImage_NoRoom_NoObject ?xo1_ValueError ?xo2_ValueError ?xo3_ValueError ?xo4_ValueError ?xo5_ValueError ?xo6_ValueError ?xo7_ValueError ?xo8_ValueError ?xo9_ValueError ?xh1 ?xu1 ?xv1 ?xw1 ?xy1_1 ?v2 ?v3 ?a1 ?l1 ?c1 ?k1 ?a2 ?l2 ?c2 ?k2 ?a3 ?l3 ?c3 ?k3 ?a4 ?l4 ?c4 ?k4 ?a5 ?i5 ?l5 ?c5 ?k5 ?a6 ?i6 ?l6 ?c6 ?k6 ?a7 ?i7 ?l7 ?c7 ?k7 ?a8 ?l8 ?c8 ?k8 ?a9 ?i9 ?l9 ?c9 ?k9 ?a10 ?l10 ?c10 ?k10 ?a11 ?i11 ?l11 ?c11 ?k11 ?a12 ?i12 ?l12 ?c12 ?k12 ?a13 ?i13 ?l13 ?c13 ?k13 ?a14 ?i14 ?l14 ?c14 ?k14 ?a15 ?l15 ?c15 ?k15 ?a16 ?l16 ?c16 ?k16 ?a17 ?l17 ?c17 ?k17 ?a18 ?l18 ?c18 ?k18 ?a19 ?l19 ?c19 ?k19 ?a20 ?l20 ?c20 ?k20 ?z0 ?z1 ?z2 ?z3 ?z4 ?z5 ?z6 ?z7 ?z8 ?y0 ?y1
    (case xa1 => k_is)
    (case xb1 => k_is)
    (case xc1 => k_is)
    (case xd1 => k_is)
    (case xe1 => k_is)
    (case xi1 => k_is)
    (case xj1 => k_is)
    (case xk1 => k_is)
    (case xl1 => k_is)
    (case xp1 => k_is)
    (case xs1 => k_is)
    (case xf1_at => k_is)
    (case xa2 => k_is)
    (case xb2 => k_is)
    (case xc2 => k_is)
    (case xd2 => k_is)
    (case xe2 => k_is)
    (case xi2 => k_is)
    (case xj2 => k_is)
    (case xk2 => k_is)
    (case xl2 => k_is)
    (case xp2 => k_is)
    (case xs2 => k_is)
    (case xf2_part => k_is)
    (case xf2_number => k_is)
    (case xf2_place => k_is)
    (case xf2_why => k_is)
    (case xa3 => k_is)
    (case xb3 => k_is)
    (case xc3 => k_is)
    (case xd3 => k_is)
    (case xe3 => k_is)
    (case xi3 => k_is)
    (case xj3 => k_is)
    (case xk3 => k_is)
    (case xl3 => k_is)
    (case xp3 => k_is)
    (case xs3 => k_is)
    (case xf3_line => k_is)
    (case xf3_why => k_is)
    (case xa4 => k_is)
    (case xb4 => k_is)
    (case xc4 => k_is)
    (case xd4 => k_is)
    (case xe4 => k_is)
    (case xi4 => k_is)
    (case xj4 => k_is)
    (case xk4 => k_is)
    (case xl4 => k_is)
    (case xp4 => k_is)
    (case xs4 => k_is)
    (case xf4_number => k_is)
    (case xf4_why => k_is)
    (case xf4_walk => k_is)
    (case xf4_other => k_is)
    (case xa5 => k_is)
    (case xb5 => k_is)
    (case xc5 => k_is)
    (case xd5 => k_is)
    (case xe5 => k_is)
    (case xi5 => k_is)
    (case xj5 => k_is)
    (case xk5 => k_is)
    (case xl5 => k_is)
    (case xp5 => k_is)
    (case xs5 => k_is)
    (case xa6 => k_is)
    (case xb6 => k_is)
    (case xc6 => k_is)
    (case xd6 => k_is)
    (case xe6 => k_is)
    (case xi6 => k_is)
    (case xj6 => k_is)
    (case xk6 => k_is)
    (case xl6 => k_is)
    (case xp6 => k_is)
    (case xs6 => k_is)
    (case xf6_part => k_is)
    (case xf6_number => k_is)
    (case xf6_why => k_is)
    (case xa7 => k_is)
    (case xb7 => k_is)
    (case xc7 => k_is)
    (case xd7 => k_is)
    (case xe7 => k_is)
    (case xi7 => k_is)
    (case xj7 => k_is)
    (case xk7 => k_is)
    (case xl7 => k_is)
    (case xp7 => k_is)
    (case xs7 => k_is)
    (case xf7_line => k_is)
    (case xf7_why => k_is)
    (case xa8 => k_is)
    (case xb8 => k_is)
    (case xc8 => k_is)
    (case xd8 => k_is)
    (case xe8 => k_is)
    (case xi8 => k_is)
    (case xj8 => k_is)
    (case xk8 => k_is)
    (case xl8 => k_is)
    (case xp8 => k_is)
    (case xs8 => k_is)
    (case xf8_words => k_is)
    (case xa9 => k_is)
    (case xb9 => k_is)
    (case xc9 => k_is)
    (case xd9 => k_is)
    (case xe9 => k_is)
    (case xi9 => k_is)
    (case xj9 => k_is)
    (case xk9 => k_is)
    (case xl9 => k_is)
    (case xp9 => k_is)
    (case xs9 => k_is)
    (case xf9_number => k_is)
    (case xt1 => k_is)
    (case xt2 => k_is)
    (case xt3 => k_is)
    (case xt4 => k_is)
    (case xt5 => k_is)
    (case xt6 => k_is)
    (case xt7 => k_is)
    (case xt8 => k_is)
    (case xt9 => k_is)
    (case xt10 => k_is)
    (case xh1 => k_is)
    (case xu1 => k_is)
    (case xv1 => k_is)
    (case xw1 => k_is)
    (case xy1_1 => k_is)
    (case v2 => k_is)
    (case v3 => k_is)
    (case a1 => k_is)
    (case l1 => k_is)
    (case c1 => k_is)
    (case k1 => k_is)
    (case a2 => k_is)
    (case l2 => k_is)
    (case c2 => k_is)
    (case k2 => k_is)
    (case a3 => k_is)
    (case l3 => k_is)
    (case c3 => k_is)
    (case k3 => k_is)
    (case a4 => k_is)
    (case l4 => k_is)
    (case c4 => k_is)
    (case k4 => k_is)
    (case a5 => k_is)
    (case i5 => k_is)
    (case l5 => k_is)
    (case c5 => k_is)
    (case k5 => k_is)
    (case a6 => k_is)
    (case i6 => k_is)
    (case l6 => k_is)
    (case c6 => k_is)
    (case k6 => k_is)
    (case a7 => k_is)
    (case i7 => k_is)
    (case l7 => k_is)
    (case c7 => k_is)
    (case k7 => k_is)
    (case a8 => k_is)
    (case l8 => k_is)
    (case c8 => k_is)
    (case k8 => k_is)
    (case a9 => k_is)
    (case i9 => k_is)
    (case l9 => k_is)
    (case c9 => k_is)
    (case k9 => k_is)
    (case a10 => k_is)
    (case l10 => k_is)
    (case c10 => k_is)
    (case k10 => k_is)
    (case a11 => k_is)
    (case i11 => k_is)
    (case l11 => k_is)
    (case c11 => k_is)
    (case k11 => k_is)
    (case a12 => k_is)
    (case i12 => k_is)
    (case l12 => k_is)
    (case c12 => k_is)
    (case k12 => k_is)
    (case a13 => k_is)
    (case i13 => k_is)
    (case l13 => k_is)
    (case c13 => k_is)
    (case k13 => k_is)
    (case a14 => k_is)
    (case i14 => k_is)
    (case l14 => k_is)
    (case c14 => k_is)
    (case k14 => k_is)
    (case a15 => k_is)
    (case l15 => k_is)
    (case c15 => k_is)
    (case k15 => k_is)
    (case a16 => k_is)
    (case l16 => k_is)
    (case c16 => k_is)
    (case k16 => k_is)
    (case a17 => k_is)
    (case l17 => k_is)
    (case c17 => k_is)
    (case k17 => k_is)
    (case a18 => k_is)
    (case l18 => k_is)
    (case c18 => k_is)
    (case k18 => k_is)
    (case a19 => k_is)
    (case l19 => k_is)
    (case c19 => k_is)
    (case k19 => k_is)
    (case a20 => k_is)
    (case l20 => k_is)
    (case c20 => k_is)
    (case k20 => k_is)
    (case z0 => k_is)
    (case z1 => k_is)
    (case z2 => k_is)
    (case z3 => k_is)
    (case z4 => k_is)
    (case z5 => k_is)
    (case z6 => k_is)
    (case z7 => k_is)
    (case z8 => k_is)
    (case y0 => k_is)
    (case y1 => k_is)
    (case xr1 => exact rfl)
    (case xr2 => exact rfl)
    (case xr3 => exact rfl)
    (case xr4 => exact rfl)
    (case xr5 => exact rfl)
    (case xz5 => kernel_rfl)
    (case xr6 => exact rfl)
    (case xr7 => exact rfl)
    (case xr8 => exact rfl)
    (case xr9 => exact rfl)
    (case xo1_1 => kernel_rfl)
    (case xo2_1 => kernel_rfl)
    (case xo3_1 => kernel_rfl)
    (case xo4_1 => kernel_rfl)
    (case xo5_1 => kernel_rfl)
    (case xo6_1 => kernel_rfl)
    (case xo7_1 => kernel_rfl)
    (case xo8_1 => kernel_rfl)
    (case xo9_1 => kernel_rfl)
    (case xo1_2 => kernel_rfl)
    (case xo2_2 => kernel_rfl)
    (case xo3_2 => kernel_rfl)
    (case xo4_2 => kernel_rfl)
    (case xo5_2 => kernel_rfl)
    (case xo6_2 => kernel_rfl)
    (case xo7_2 => kernel_rfl)
    (case xo8_2 => kernel_rfl)
    (case xo9_2 => kernel_rfl)
    (case xo1_3 => kernel_rfl)
    (case xo2_3 => kernel_rfl)
    (case xo3_3 => kernel_rfl)
    (case xo4_3 => kernel_rfl)
    (case xo5_3 => kernel_rfl)
    (case xo6_3 => kernel_rfl)
    (case xo7_3 => kernel_rfl)
    (case xo8_3 => kernel_rfl)
    (case xo9_3 => kernel_rfl)
    (case xo1_4 => kernel_rfl)
    (case xo2_4 => kernel_rfl)
    (case xo3_4 => kernel_rfl)
    (case xo4_4 => kernel_rfl)
    (case xo5_4 => kernel_rfl)
    (case xo6_4 => kernel_rfl)
    (case xo7_4 => kernel_rfl)
    (case xo8_4 => kernel_rfl)
    (case xo9_4 => kernel_rfl)
    (case xo1_5 => kernel_rfl)
    (case xo2_5 => kernel_rfl)
    (case xo3_5 => kernel_rfl)
    (case xo4_5 => kernel_rfl)
    (case xo5_5 => kernel_rfl)
    (case xo6_5 => kernel_rfl)
    (case xo7_5 => kernel_rfl)
    (case xo8_5 => kernel_rfl)
    (case xo9_5 => kernel_rfl)
    (case xo1_6 => kernel_rfl)
    (case xo2_6 => kernel_rfl)
    (case xo3_6 => kernel_rfl)
    (case xo4_6 => kernel_rfl)
    (case xo5_6 => kernel_rfl)
    (case xo6_6 => kernel_rfl)
    (case xo7_6 => kernel_rfl)
    (case xo8_6 => kernel_rfl)
    (case xo9_6 => kernel_rfl)
    (case xo1_7 => kernel_rfl)
    (case xo2_7 => kernel_rfl)
    (case xo3_7 => kernel_rfl)
    (case xo4_7 => kernel_rfl)
    (case xo5_7 => kernel_rfl)
    (case xo6_7 => kernel_rfl)
    (case xo7_7 => kernel_rfl)
    (case xo8_7 => kernel_rfl)
    (case xo9_7 => kernel_rfl)
    (case xo1_8 => kernel_rfl)
    (case xo2_8 => kernel_rfl)
    (case xo3_8 => kernel_rfl)
    (case xo4_8 => kernel_rfl)
    (case xo5_8 => kernel_rfl)
    (case xo6_8 => kernel_rfl)
    (case xo7_8 => kernel_rfl)
    (case xo8_8 => kernel_rfl)
    (case xo9_8 => kernel_rfl)
    (case xo1_9 => kernel_rfl)
    (case xo2_9 => kernel_rfl)
    (case xo3_9 => kernel_rfl)
    (case xo4_9 => kernel_rfl)
    (case xo5_9 => kernel_rfl)
    (case xo6_9 => kernel_rfl)
    (case xo7_9 => kernel_rfl)
    (case xo8_9 => kernel_rfl)
    (case xo9_9 => kernel_rfl)
    (case xo1_10 => kernel_rfl)
    (case xo2_10 => kernel_rfl)
    (case xo3_10 => kernel_rfl)
    (case xo4_10 => kernel_rfl)
    (case xo5_10 => kernel_rfl)
    (case xo6_10 => kernel_rfl)
    (case xo7_10 => kernel_rfl)
    (case xo8_10 => kernel_rfl)
    (case xo9_10 => kernel_rfl)
    (case xq1_BadProgram_BadText_Refused_BadArguments_BadPicture_BadImage_NoRoom_NoObject => kernel_rfl)
    (case xq2_BadProgram_BadText_Refused_BadArguments_BadPicture_BadImage_NoRoom_NoObject => kernel_rfl)
    (case xq3_BadProgram_BadText_Refused_BadArguments_BadPicture_BadImage_NoRoom_NoObject => kernel_rfl)
    (case xq4_BadProgram_BadText_Refused_BadArguments_BadPicture_BadImage_NoRoom_NoObject => kernel_rfl)
    (case xq5_BadProgram_BadText_Refused_BadArguments_BadPicture_BadImage_NoRoom_NoObject => kernel_rfl)
    (case xq6_BadProgram_BadText_Refused_BadArguments_BadPicture_BadImage_NoRoom_NoObject => kernel_rfl)
    (case xq7_BadProgram_BadText_Refused_BadArguments_BadPicture_BadImage_NoRoom_NoObject => kernel_rfl)
    (case xq8_BadProgram_BadText_Refused_BadArguments_BadPicture_BadImage_NoRoom_NoObject => kernel_rfl)
    (case xq9_BadProgram_BadText_Refused_BadArguments_BadPicture_BadImage_NoRoom_NoObject => kernel_rfl)
    (case xo1_ValueError => kernel_rfl)
    (case xo2_ValueError => kernel_rfl)
    (case xo3_ValueError => kernel_rfl)
    (case xo4_ValueError => kernel_rfl)
    (case xo5_ValueError => kernel_rfl)
    (case xo6_ValueError => kernel_rfl)
    (case xo7_ValueError => kernel_rfl)
    (case xo8_ValueError => kernel_rfl)
    (case xo9_ValueError => kernel_rfl)
