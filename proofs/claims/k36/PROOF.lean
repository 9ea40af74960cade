import PyProof.Rows.All
import Wide.All
import OpenK.AllK
import Wide.FinOn
import HandS.ForMost
import HandS.IsInst
import HandS.Wide
import HandS.Style
import HandS.TupMul
import HandS.TupAny
import KE.IntBitsLaws
import HandS.Rev
import HandS.Exc
import HandS.TryOnly
import HandS.EndBits
import HandS.RaiseMore
import HandS.ForExc
import HandS.Small
import HandS.Defaults
import HandS.WordsDict
import HandS.More
import HandS.ExcInit
import HandS.ExcField
import HandS.Iter
import KE.GoesEnumKw
import HandS.DictComp
import HandS.HeadHook3
import HandS.Strs
import HandS.SetKeys
import HandS.Star
import HandS.FStr
import HandS.RevTup
import HandS.OwnEq
import KE.DataCmp
import PySem.Challenge.RW_quietbroom_k36_picture_fields
set_option Elab.async false
set_option linter.all false
set_option maxRecDepth 100000
set_option maxHeartbeats 4000000
set_option autoImplicit false
namespace Vf
open PySem L2
/-! conditions that nothing evaluates -/
noncomputable def cif {α : Type} (p : Prop) (a b : α) : α := @ite α p (Classical.propDecidable p) a b
theorem cif_pos {α : Type} {p : Prop} {a b : α} (h : p) : cif p a b = a := @if_pos p (Classical.propDecidable p) h _ a b
theorem cif_neg {α : Type} {p : Prop} {a b : α} (h : ¬ p) : cif p a b = b := @if_neg p (Classical.propDecidable p) h _ a b
noncomputable def cdec (p : Prop) : Bool := @decide p (Classical.propDecidable p)
theorem cdec_eq (p : Prop) [i : Decidable p] : cdec p = decide p := by
  unfold cdec
  congr
/-! data: what a value is worth, as a tree -/
inductive D where
  | non | bl (b : Bool) | int (i : Int) | str (s : Str)
  | lst (xs : List D) | scr (xs : List D) | tup (xs : List D)
  | ins (c : Str) (fs : List Str) (ds : List D)
  | dic (ks : List Key) (ds : List D)
/-- N: may be handed on; B: only to be read here; T: for this expression alone; O: the list of an own name -/
inductive Tg where | N | B | T | O
  deriving DecidableEq
abbrev TD := Tg × D
/-- a value that may be a handle: the number of an object that may change -/
inductive HV where | pu (d : D) | ob (n : Nat)
inductive Mob where
  | lst (xs : List HV) | tup (xs : List HV)
  | ins (c : Str) (fs : List Str) (xs : List HV)
  | dic (ks : List Key) (xs : List HV)
abbrev Tb := List (Option Mob)
inductive Sl where | un | val (t : Tg) (d : D) | own (ds : List D) | han (n : Nat)
structure Ev where
  s : List Sl
  t : Tb
abbrev Ev.put (e : Ev) (i : Nat) (s : Sl) : Ev := ⟨e.s.set i s, e.t⟩
inductive Out where | nx (e : Ev) | rt (r : TD) | bk (e : Ev) | ct (e : Ev) | rth (x : HV) (T : Tb)
abbrev FE := Ev → Option TD
abbrev FA := Ev → Option (List TD)
abbrev FT := Ev → Option Bool
abbrev FS := Ev → Option Out
def isS : D → Bool
  | .non => true | .bl _ => true | .int _ => true | .str _ => true
  | .lst _ => false | .scr _ => false | .tup _ => false | .ins _ _ _ => false | .dic _ _ => false
def vOf : D → V
  | .non => .non | .bl b => .bl b | .int i => .int i | .str s => .str s
  | .lst _ => .non | .scr _ => .non | .tup _ => .non | .ins _ _ _ => .non | .dic _ _ => .non
/-- a scalar may always be handed on -/
def nm : TD → TD
  | (_, .non) => (.N, .non) | (_, .bl b) => (.N, .bl b) | (_, .int i) => (.N, .int i) | (_, .str s) => (.N, .str s)
  | (t, d) => (t, d)
/-- the tag of an item -/
def el : Tg → Tg | .N => .N | .B => .B | .T => .T | .O => .N
/-- the tag of a thing that holds both -/
def mt2 : Tg → Tg → Tg
  | .N, .N => .N
  | .N, .B => .B | .B, .N => .B | .B, .B => .B
  | _, _ => .T
structure Zc where
  K : PySem.W.Frag
  cl : Str → Option Addr
mutual
inductive Rp (Z : Zc) (H : Hp) : V → D → Prop
  | non : Rp Z H .non .non
  | bl (b : Bool) : Rp Z H (.bl b) (.bl b)
  | int (i : Int) : Rp Z H (.int i) (.int i)
  | str (s : Str) : Rp Z H (.str s) (.str s)
  | lst {a : Addr} {xs : List V} {ds : List D} : H a = some (.lst xs) → RpL Z H xs ds → Rp Z H (.ref a) (.lst ds)
  | scr {a : Addr} {xs : List V} {ds : List D} : SqL Z.K H a xs → RpL Z H xs ds → Rp Z H (.ref a) (.scr ds)
  | tup {a : Addr} {xs : List V} {ds : List D} : SqT Z.K H a xs → RpL Z H xs ds → Rp Z H (.ref a) (.tup ds)
  | ins {a C dx : Addr} {c : Str} {fs : List Str} {vs : List V} {ds : List D} : H a = some (.ins C dx (fs.zip vs)) → Z.cl c = some C → vs.length = fs.length → RpL Z H vs ds → Rp Z H (.ref a) (.ins c fs ds)
  | dic {a : Addr} {ks : List Key} {vs : List V} {ds : List D} : Rd H a (.dK (ks.zip vs)) → vs.length = ks.length → RpL Z H vs ds → Rp Z H (.ref a) (.dic ks ds)
inductive RpL (Z : Zc) (H : Hp) : List V → List D → Prop
  | nil : RpL Z H [] []
  | cons {v : V} {vs : List V} {d : D} {ds : List D} : Rp Z H v d → RpL Z H vs ds → RpL Z H (v :: vs) (d :: ds)
end
theorem rd_mono {H H' : Hp} {a : Addr} {u : HO} (e : Same H H') (h : Rd H a u) : Rd H' a u := by
  rcases h with h | ⟨o, h⟩
  · exact .inl (e _ _ h)
  · exact .inr ⟨o, e _ _ h⟩
theorem sqT_mono {K : PySem.W.Frag} {H H' : Hp} {a : Addr} {xs : List V} (e : Same H H') (h : SqT K H a xs) : SqT K H' a xs := by
  rcases h with h | h
  · exact .inl (rd_mono e h)
  · exact .inr h
mutual
theorem Rp.mono {Z : Zc} {H H' : Hp} (e : Same H H') : ∀ {v : V} {d : D}, Rp Z H v d → Rp Z H' v d
  | _, _, .non => .non
  | _, _, .bl b => .bl b
  | _, _, .int i => .int i
  | _, _, .str s => .str s
  | _, _, .lst h r => .lst (e _ _ h) (RpL.mono e r)
  | _, _, .scr h r => .scr (e.seq h) (RpL.mono e r)
  | _, _, .tup h r => .tup (sqT_mono e h) (RpL.mono e r)
  | _, _, .ins h c l r => .ins (e _ _ h) c l (RpL.mono e r)
  | _, _, .dic h l r => .dic (rd_mono e h) l (RpL.mono e r)
theorem RpL.mono {Z : Zc} {H H' : Hp} (e : Same H H') : ∀ {vs : List V} {ds : List D}, RpL Z H vs ds → RpL Z H' vs ds
  | _, _, .nil => .nil
  | _, _, .cons h r => .cons (Rp.mono e h) (RpL.mono e r)
end
section
variable {Z : Zc} {H H' : Hp}
theorem RpL.length : ∀ {vs : List V} {ds : List D}, RpL Z H vs ds → vs.length = ds.length
  | _, _, .nil => rfl
  | _, _, .cons _ r => congrArg Nat.succ r.length
theorem RpL.get : ∀ {vs : List V} {ds : List D} {i : Nat} {d : D}, RpL Z H vs ds → ds[i]? = some d → ∃ v, vs[i]? = some v ∧ Rp Z H v d
  | _, _, _, _, .nil, e => by simp at e
  | _, _, 0, _, .cons h r, e => by simp at e; subst e; exact ⟨_, rfl, h⟩
  | _, _, i + 1, _, .cons h r, e => by simpa using RpL.get (i := i) r (by simpa using e)
theorem RpL.append : ∀ {vs us : List V} {ds es : List D}, RpL Z H vs ds → RpL Z H us es → RpL Z H (vs ++ us) (ds ++ es)
  | _, _, _, _, .nil, s => s
  | _, _, _, _, .cons h r, s => .cons h (r.append s)
theorem RpL.take : ∀ {vs : List V} {ds : List D} (n : Nat), RpL Z H vs ds → RpL Z H (vs.take n) (ds.take n)
  | _, _, 0, _ => .nil
  | _, _, _ + 1, .nil => .nil
  | _, _, n + 1, .cons h r => .cons h (r.take n)
theorem RpL.drop : ∀ {vs : List V} {ds : List D} (n : Nat), RpL Z H vs ds → RpL Z H (vs.drop n) (ds.drop n)
  | _, _, 0, r => r
  | _, _, _ + 1, .nil => .nil
  | _, _, n + 1, .cons _ r => r.drop n
theorem RpL.set : ∀ {vs : List V} {ds : List D} {v : V} {d : D} (n : Nat), RpL Z H vs ds → Rp Z H v d → RpL Z H (vs.set n v) (ds.set n d)
  | _, _, _, _, _, .nil, _ => .nil
  | _, _, _, _, 0, .cons _ r, q => .cons q r
  | _, _, _, _, n + 1, .cons h r, q => .cons h (r.set n q)
theorem RpL.rep : ∀ {vs : List V} {ds : List D} (n : Nat), RpL Z H vs ds → RpL Z H (List.replicate n vs).flatten (List.replicate n ds).flatten
  | _, _, 0, _ => .nil
  | _, _, n + 1, r => by
    rw [List.replicate_succ, List.replicate_succ, List.flatten_cons, List.flatten_cons]
    exact r.append (r.rep n)
theorem rp_val {v : V} {d : D} (hs : isS d = true) (h : Rp Z H v d) : v = vOf d := by
  cases h <;> first | rfl | exact absurd hs (by simp [isS])
theorem rp_of {d : D} (hs : isS d = true) : Rp Z H (vOf d) d := by
  cases d <;> first | (constructor; done) | exact absurd hs (by simp [isS])
theorem rpL_vals : ∀ {vs : List V} {ds : List D}, RpL Z H vs ds → ds.all isS = true → vs = ds.map vOf
  | _, _, .nil, _ => rfl
  | _, _, .cons h r, e => by
    simp only [List.all_cons, Bool.and_eq_true] at e
    rw [List.map_cons, rp_val e.1 h, rpL_vals r e.2]
end
/-! worlds -/
structure Wd where
  N : Hp
  B : Hp
  H : Hp
  m : List Addr
structure Wf (w : Wd) : Prop where
  nb : Same w.N w.B
  bh : Same w.B w.H
theorem Wf.nh {w : Wd} (h : Wf w) : Same w.N w.H := h.nb.trans h.bh
structure Gr (w w' : Wd) : Prop where
  wf : Wf w'
  n : Same w.N w'.N
  b : Same w.B w'.B
  h : Same w.H w'.H
  fn : ∀ x, w'.N x ≠ none → w.N x ≠ none ∨ w.H x = none
  fb : ∀ x, w'.B x ≠ none → w.B x ≠ none ∨ w.H x = none
  m : w'.m = w.m
/-- growth of a statement: own lists may change -/
structure Gs (w w' : Wd) : Prop where
  wf : Wf w'
  n : Same w.N w'.N
  b : Same w.B w'.B
  fn : ∀ x, w'.N x ≠ none → w.N x ≠ none ∨ w.B x = none
  m : w.m <+: w'.m
  mf : ∀ a ∈ w'.m, a ∈ w.m ∨ w.B a = none
theorem Gr.refl {w : Wd} (h : Wf w) : Gr w w := ⟨h, .refl _, .refl _, .refl _, fun _ q => .inl q, fun _ q => .inl q, rfl⟩
theorem Gs.refl {w : Wd} (h : Wf w) : Gs w w := ⟨h, .refl _, .refl _, fun _ q => .inl q, List.prefix_refl _, fun _ q => .inl q⟩
theorem Gr.trans {w w1 w2 : Wd} (a : Gr w w1) (b : Gr w1 w2) : Gr w w2 where
  wf := b.wf
  n := a.n.trans b.n
  b := a.b.trans b.b
  h := a.h.trans b.h
  fn := fun x q => (b.fn x q).elim (a.fn x) fun z => .inr (a.h.free z)
  fb := fun x q => (b.fb x q).elim (a.fb x) fun z => .inr (a.h.free z)
  m := b.m.trans a.m
theorem Gs.trans {w w1 w2 : Wd} (a : Gs w w1) (b : Gs w1 w2) : Gs w w2 where
  wf := b.wf
  n := a.n.trans b.n
  b := a.b.trans b.b
  fn := fun x q => (b.fn x q).elim (a.fn x) fun z => .inr (a.b.free z)
  m := a.m.trans b.m
  mf := fun x q => (b.mf x q).elim (a.mf x) fun z => .inr (a.b.free z)
theorem Gr.gs {w w' : Wd} (hw : Wf w) (g : Gr w w') : Gs w w' := ⟨g.wf, g.n, g.b, fun x q => (g.fn x q).imp id fun z => hw.bh.free z, by rw [g.m]; exact List.prefix_refl _, fun x q => .inl (by rw [← g.m]; exact q)⟩
theorem Gs.gr {N H : Hp} {m : List Addr} {w' : Wd} (g : Gs ⟨N, H, H, m⟩ w') : Gr ⟨N, H, H, m⟩ ⟨w'.N, w'.B, w'.H, m⟩ := ⟨⟨g.wf.nb, g.wf.bh⟩, g.n, g.b, g.b.trans g.wf.bh, g.fn, fun x _ => by
  show H x ≠ none ∨ H x = none
  cases H x with
  | none => exact .inr rfl
  | some o => exact .inl (fun z => nomatch z), rfl⟩
def RV (Z : Zc) (w : Wd) : TD → V → Prop
  | (.N, d), v => Rp Z w.N v d
  | (.B, d), v => Rp Z w.B v d
  | (.T, d), v => Rp Z w.H v d
  | (.O, d), v => ∃ p vs ds, v = .ref p ∧ d = .lst ds ∧ w.H p = some (.lst vs) ∧ w.B p = none ∧ RpL Z w.N vs ds
theorem own_mono {w w' : Wd} (g : Gr w w') {p : Addr} {o : HO} (h : w.H p = some o) (b : w.B p = none) : w'.B p = none := by
  cases q : w'.B p with
  | none => rfl
  | some u =>
    rcases g.fb p (by rw [q]; exact fun z => nomatch z) with z | z
    · exact (z b).elim
    · rw [h] at z
      cases z
def RVs (Z : Zc) (w : Wd) : List TD → List V → Prop
  | [], [] => True
  | r :: rs, v :: vs => RV Z w r v ∧ RVs Z w rs vs
  | _, _ => False
theorem RV.mono {Z : Zc} {w w' : Wd} (g : Gr w w') : ∀ {r : TD} {v : V}, RV Z w r v → RV Z w' r v
  | (.N, _), _, h => Rp.mono g.n h
  | (.B, _), _, h => Rp.mono g.b h
  | (.T, _), _, h => Rp.mono g.h h
  | (.O, _), _, ⟨p, vs, ds, e, e2, h, b, r⟩ => ⟨p, vs, ds, e, e2, g.h _ _ h, own_mono g h b, RpL.mono g.n r⟩
theorem RVs.mono {Z : Zc} {w w' : Wd} (g : Gr w w') : ∀ {rs : List TD} {vs : List V}, RVs Z w rs vs → RVs Z w' rs vs
  | [], [], _ => trivial
  | _ :: _, _ :: _, ⟨h, r⟩ => ⟨RV.mono g h, RVs.mono g r⟩
  | [], _ :: _, h => h.elim
  | _ :: _, [], h => h.elim
theorem RVs.length {Z : Zc} {w : Wd} : ∀ {rs : List TD} {vs : List V}, RVs Z w rs vs → vs.length = rs.length
  | [], [], _ => rfl
  | _ :: _, _ :: _, ⟨_, r⟩ => congrArg Nat.succ r.length
  | [], _ :: _, h => h.elim
  | _ :: _, [], h => h.elim
/-- any value is at least readable in the whole heap -/
theorem RV.top {Z : Zc} {w : Wd} (hw : Wf w) : ∀ {r : TD} {v : V}, RV Z w r v → Rp Z w.H v r.2
  | (.N, _), _, h => Rp.mono hw.nh h
  | (.B, _), _, h => Rp.mono hw.bh h
  | (.T, _), _, h => h
  | (.O, _), _, ⟨p, vs, ds, e, e2, h, b, r⟩ => by
    cases e
    cases e2
    exact .lst h (RpL.mono hw.nh r)
theorem RV.sc {Z : Zc} {w : Wd} {t u : Tg} {d : D} {v : V} (hw : Wf w) (hs : isS d = true) (hu : u ≠ .O) (h : RV Z w (t, d) v) : RV Z w (u, d) v := by
  have e := rp_val hs (h.top hw)
  subst e
  cases u with
  | O => exact (hu rfl).elim
  | N => exact rp_of (Z := Z) (H := w.N) hs
  | B => exact rp_of (Z := Z) (H := w.B) hs
  | T => exact rp_of (Z := Z) (H := w.H) hs
theorem RV.nm {Z : Zc} {w : Wd} (hw : Wf w) : ∀ {r : TD} {v : V}, RV Z w r v → RV Z w (Vf.nm r) v
  | (t, .non), _, h => h.sc hw rfl (by decide)
  | (t, .bl _), _, h => h.sc hw rfl (by decide)
  | (t, .int _), _, h => h.sc hw rfl (by decide)
  | (t, .str _), _, h => h.sc hw rfl (by decide)
  | (t, .lst _), _, h => h
  | (t, .scr _), _, h => h
  | (t, .tup _), _, h => h
  | (t, .ins _ _ _), _, h => h
  | (t, .dic _ _), _, h => h
/-- the heap that a tag reads -/
def Wd.rd (w : Wd) : Tg → Hp
  | .N => w.N | .B => w.B | .T => w.H | .O => w.H
theorem RV.rp {Z : Zc} {w : Wd} {t : Tg} {d : D} {v : V} (ht : t ≠ .O) (h : RV Z w (t, d) v) : Rp Z (w.rd t) v d := by
  cases t <;> first | exact h | exact (ht rfl).elim
theorem RV.of {Z : Zc} {w : Wd} {t : Tg} {d : D} {v : V} (ht : t ≠ .O) (h : Rp Z (w.rd t) v d) : RV Z w (t, d) v := by
  cases t <;> first | exact h | exact (ht rfl).elim
theorem el_ne (t : Tg) : el t ≠ .O := by cases t <;> decide
theorem rd_le {w : Wd} (hw : Wf w) : ∀ t, Same (w.rd t) w.H
  | .N => hw.nh
  | .B => hw.bh
  | .T => .refl _
  | .O => .refl _
/-- a list's parts: where it stands, its items by the tag of an item -/
theorem RV.lst {Z : Zc} {w : Wd} (hw : Wf w) : ∀ {t : Tg} {ds : List D} {v : V}, RV Z w (t, .lst ds) v → ∃ p vs, v = .ref p ∧ w.H p = some (.lst vs) ∧ RpL Z (w.rd (el t)) vs ds
  | .N, _, _, h => by cases h with | lst h r => exact ⟨_, _, rfl, hw.nh _ _ h, r⟩
  | .B, _, _, h => by cases h with | lst h r => exact ⟨_, _, rfl, hw.bh _ _ h, r⟩
  | .T, _, _, h => by cases h with | lst h r => exact ⟨_, _, rfl, h, r⟩
  | .O, _, _, ⟨p, vs, ds, e, e2, h, b, r⟩ => by
    cases e2
    exact ⟨p, vs, e, h, r⟩
theorem RV.scr {Z : Zc} {w : Wd} (hw : Wf w) : ∀ {t : Tg} {ds : List D} {v : V}, RV Z w (t, .scr ds) v → ∃ p vs, v = .ref p ∧ SqL Z.K w.H p vs ∧ RpL Z (w.rd (el t)) vs ds
  | .N, _, _, h => by cases h with | scr h r => exact ⟨_, _, rfl, hw.nh.seq h, r⟩
  | .B, _, _, h => by cases h with | scr h r => exact ⟨_, _, rfl, hw.bh.seq h, r⟩
  | .T, _, _, h => by cases h with | scr h r => exact ⟨_, _, rfl, h, r⟩
  | .O, _, _, ⟨p, vs, ds, e, e2, h, b, r⟩ => nomatch e2
theorem RV.tup {Z : Zc} {w : Wd} (hw : Wf w) : ∀ {t : Tg} {ds : List D} {v : V}, RV Z w (t, .tup ds) v → ∃ p vs, v = .ref p ∧ SqT Z.K w.H p vs ∧ RpL Z (w.rd (el t)) vs ds
  | .N, _, _, h => by cases h with | tup h r => exact ⟨_, _, rfl, sqT_mono hw.nh h, r⟩
  | .B, _, _, h => by cases h with | tup h r => exact ⟨_, _, rfl, sqT_mono hw.bh h, r⟩
  | .T, _, _, h => by cases h with | tup h r => exact ⟨_, _, rfl, h, r⟩
  | .O, _, _, ⟨p, vs, ds, e, e2, h, b, r⟩ => nomatch e2
/-! a new object at p: it goes to the heaps that its tag says -/
def Wd.put (w : Wd) (t : Tg) (p : Addr) (o : HO) : Wd := match t with
  | .N => ⟨upd w.N p o, upd w.B p o, upd w.H p o, w.m⟩
  | .B => ⟨w.N, upd w.B p o, upd w.H p o, w.m⟩
  | _ => ⟨w.N, w.B, upd w.H p o, w.m⟩
theorem put_H {w : Wd} {t : Tg} {p : Addr} {o : HO} : (w.put t p o).H = upd w.H p o := by cases t <;> rfl
theorem same_up {H : Hp} {p : Addr} {o : HO} (h : H p = none) : Same H (upd H p o) := fun b x e => by
  rw [upd_ne (ne_of_none e h)]
  exact e
theorem same_up2 {H H' : Hp} {p : Addr} {o : HO} (h : Same H H') : Same (upd H p o) (upd H' p o) := fun b x e => by
  by_cases hb : b = p
  · subst hb
    rw [upd_same] at e ⊢
    exact e
  · rw [upd_ne hb] at e ⊢
    exact h _ _ e
theorem same_up1 {H H' : Hp} {p : Addr} {o : HO} (h : Same H H') (n : H p = none) : Same H (upd H' p o) := fun b x e => by
  rw [upd_ne (ne_of_none e n)]
  exact h _ _ e
theorem upd_some {H : Hp} {p x : Addr} {o : HO} (h : upd H p o x ≠ none) : H x ≠ none ∨ x = p := by
  by_cases hb : x = p
  · exact .inr hb
  · rw [upd_ne hb] at h
    exact .inl h
theorem Gr.put {w : Wd} (hw : Wf w) {t : Tg} {p : Addr} {o : HO} (hp : w.H p = none) : Gr w (w.put t p o) := by
  have hB := hw.bh.free hp
  have hN := hw.nb.free hB
  cases t with
  | N => exact ⟨⟨same_up2 hw.nb, same_up2 hw.bh⟩, same_up hN, same_up hB, same_up hp, fun x q => (upd_some q).imp id fun e => by rw [e]; exact hp, fun x q => (upd_some q).imp id fun e => by rw [e]; exact hp, rfl⟩
  | B => exact ⟨⟨same_up1 hw.nb hN, same_up2 hw.bh⟩, .refl _, same_up hB, same_up hp, fun x q => .inl q, fun x q => (upd_some q).imp id fun e => by rw [e]; exact hp, rfl⟩
  | T => exact ⟨⟨hw.nb, same_up1 hw.bh hB⟩, .refl _, .refl _, same_up hp, fun x q => .inl q, fun x q => .inl q, rfl⟩
  | O => exact ⟨⟨hw.nb, same_up1 hw.bh hB⟩, .refl _, .refl _, same_up hp, fun x q => .inl q, fun x q => .inl q, rfl⟩
theorem put_at {w : Wd} {t : Tg} {p : Addr} {o : HO} (ht : t ≠ .O) : (w.put t p o).rd t p = some o := by
  cases t with
  | N => exact upd_same
  | B => exact upd_same
  | T => exact upd_same
  | O => exact (ht rfl).elim
theorem rd_gr {w w' : Wd} (g : Gr w w') : ∀ t, Same (w.rd t) (w'.rd t)
  | .N => g.n
  | .B => g.b
  | .T => g.h
  | .O => g.h
/-- a new list, a new tuple, of items by a tag -/
theorem new_lst {Z : Zc} {w : Wd} (hw : Wf w) {t : Tg} (ht : t ≠ .O) {p : Addr} {vs : List V} {ds : List D} (hp : w.H p = none) (r : RpL Z (w.rd t) vs ds) : RV Z (w.put t p (.lst vs)) (t, .lst ds) (.ref p) :=
  RV.of ht (.lst (put_at ht) (RpL.mono (rd_gr (Gr.put hw hp) t) r))
theorem new_tup {Z : Zc} {w : Wd} (hw : Wf w) {t : Tg} (ht : t ≠ .O) {p : Addr} {vs : List V} {ds : List D} (hp : w.H p = none) (r : RpL Z (w.rd t) vs ds) : RV Z (w.put t p (.tup vs)) (t, .tup ds) (.ref p) :=
  RV.of ht (.tup (.of (put_at ht)) (RpL.mono (rd_gr (Gr.put hw hp) t) r))
theorem adopt {Z : Zc} {w w' : Wd} (g : Gr w w') {t : Tg} (ht : t ≠ .O) {p : Addr} {vs : List V} {ds : List D} (hp : w.H p = none) (h : w'.H p = some (.lst vs)) (hb : w'.B p = none) (r : RpL Z (w'.rd t) vs ds) :
    ∃ w2, Gr w w2 ∧ w2.H = w'.H ∧ RV Z w2 (t, .lst ds) (.ref p) := by
  have hn : w'.N p = none := g.wf.nb.free hb
  have sh : Same (upd w'.B p (.lst vs)) w'.H := fun b x e => by
    by_cases q : b = p
    · subst q
      rw [upd_same] at e
      rw [h]
      exact e
    · rw [upd_ne q] at e
      exact g.wf.bh _ _ e
  cases t with
  | O => exact (ht rfl).elim
  | T => exact ⟨w', g, rfl, Rp.lst h r⟩
  | N => exact ⟨⟨upd w'.N p (.lst vs), upd w'.B p (.lst vs), w'.H, w'.m⟩, ⟨⟨same_up2 g.wf.nb, sh⟩, same_up1 g.n (g.n.free hn), same_up1 g.b (g.b.free hb), g.h,
      fun x q => (upd_some q).elim (g.fn x) fun e => .inr (by rw [e]; exact hp), fun x q => (upd_some q).elim (g.fb x) fun e => .inr (by rw [e]; exact hp), g.m⟩, rfl, Rp.lst upd_same (RpL.mono (same_up hn) r)⟩
  | B => exact ⟨⟨w'.N, upd w'.B p (.lst vs), w'.H, w'.m⟩, ⟨⟨same_up1 g.wf.nb hn, sh⟩, g.n, same_up1 g.b (g.b.free hb), g.h,
      g.fn, fun x q => (upd_some q).elim (g.fb x) fun e => .inr (by rw [e]; exact hp), g.m⟩, rfl, Rp.lst upd_same (RpL.mono (same_up hb) r)⟩
theorem mt2_ne (t u : Tg) : mt2 t u ≠ .O := by cases t <;> cases u <;> decide
theorem mt2_l {w : Wd} (hw : Wf w) (t u : Tg) : Same (w.rd (el t)) (w.rd (mt2 (el t) u)) := by
  cases t <;> cases u <;> first | exact .refl _ | exact hw.nb | exact hw.bh | exact hw.nh
theorem mt2_r {w : Wd} (hw : Wf w) (t u : Tg) : Same (w.rd (el u)) (w.rd (mt2 t (el u))) := by
  cases t <;> cases u <;> first | exact .refl _ | exact hw.nb | exact hw.bh | exact hw.nh
/-! objects that may change -/
def HvOk (Z : Zc) (w : Wd) (v : V) : HV → Prop
  | .pu d => Rp Z w.N v d
  | .ob n => ∃ a, v = .ref a ∧ w.m[n]? = some a
def HvsOk (Z : Zc) (w : Wd) : List V → List HV → Prop
  | [], [] => True
  | v :: vs, x :: xs => HvOk Z w v x ∧ HvsOk Z w vs xs
  | _, _ => False
def MobOk (Z : Zc) (w : Wd) (a : Addr) : Mob → Prop
  | .lst xs => ∃ vs, w.H a = some (.lst vs) ∧ HvsOk Z w vs xs
  | .tup xs => ∃ vs, w.H a = some (.tup vs) ∧ HvsOk Z w vs xs
  | .ins c fs xs => ∃ C dx vs, w.H a = some (.ins C dx (fs.zip vs)) ∧ Z.cl c = some C ∧ vs.length = fs.length ∧ HvsOk Z w vs xs
  | .dic ks xs => ∃ vs, w.H a = some (.dK (ks.zip vs)) ∧ vs.length = ks.length ∧ HvsOk Z w vs xs
structure TbOk (Z : Zc) (T : Tb) (w : Wd) : Prop where
  len : T.length = w.m.length
  nd : w.m.Nodup
  hh : ∀ a ∈ w.m, w.H a ≠ none
  at_ : ∀ (n : Nat) (M : Mob), T[n]? = some (some M) → ∃ a, w.m[n]? = some a ∧ w.B a = none ∧ MobOk Z w a M
theorem HvOk.mono {Z : Zc} {w w' : Wd} (hn : Same w.N w'.N) (hm : w.m <+: w'.m) {v : V} : ∀ {x : HV}, HvOk Z w v x → HvOk Z w' v x
  | .pu _, h => Rp.mono hn h
  | .ob _, ⟨a, e, h⟩ => ⟨a, e, by
    obtain ⟨l, hl⟩ := hm
    rw [← hl, List.getElem?_append_left (List.getElem?_eq_some_iff.mp h).1]
    exact h⟩
theorem HvsOk.mono {Z : Zc} {w w' : Wd} (hn : Same w.N w'.N) (hm : w.m <+: w'.m) : ∀ {vs : List V} {xs : List HV}, HvsOk Z w vs xs → HvsOk Z w' vs xs
  | [], [], _ => trivial
  | _ :: _, _ :: _, ⟨h, r⟩ => ⟨h.mono hn hm, r.mono hn hm⟩
  | [], _ :: _, h => h.elim
  | _ :: _, [], h => h.elim
/-- an object keeps its worth where its place in the heap does -/
theorem MobOk.mono {Z : Zc} {w w' : Wd} (hn : Same w.N w'.N) (hm : w.m <+: w'.m) {a : Addr} (hh : ∀ o, w.H a = some o → w'.H a = some o) : ∀ {M : Mob}, MobOk Z w a M → MobOk Z w' a M
  | .lst _, ⟨vs, h, r⟩ => ⟨vs, hh _ h, r.mono hn hm⟩
  | .tup _, ⟨vs, h, r⟩ => ⟨vs, hh _ h, r.mono hn hm⟩
  | .ins _ _ _, ⟨C, dx, vs, h, c, l, r⟩ => ⟨C, dx, vs, hh _ h, c, l, r.mono hn hm⟩
  | .dic _ _, ⟨vs, h, l, r⟩ => ⟨vs, hh _ h, l, r.mono hn hm⟩
theorem TbOk.mono {Z : Zc} {T : Tb} {w w' : Wd} (g : Gr w w') (h : TbOk Z T w) : TbOk Z T w' where
  len := by rw [g.m]; exact h.len
  nd := by rw [g.m]; exact h.nd
  hh := fun a ha e => h.hh a (by rw [← g.m]; exact ha) (g.h.free e)
  at_ := fun n M e => by
    obtain ⟨a, h1, h2, h3⟩ := h.at_ n M e
    have hb : w'.B a = none := by
      have hH : ∃ o, w.H a = some o := by
        cases M with
        | lst _ => obtain ⟨vs, q, _⟩ := h3; exact ⟨_, q⟩
        | tup _ => obtain ⟨vs, q, _⟩ := h3; exact ⟨_, q⟩
        | ins _ _ _ => obtain ⟨C, dx, vs, q, _⟩ := h3; exact ⟨_, q⟩
        | dic _ _ => obtain ⟨vs, q, _⟩ := h3; exact ⟨_, q⟩
      obtain ⟨o, q⟩ := hH
      exact own_mono g q h2
    exact ⟨a, by rw [g.m]; exact h1, hb, h3.mono g.n (by rw [g.m]; exact List.prefix_refl _) fun o q => g.h _ _ q⟩
/-- .. where a list that is not of the table changes -/
theorem TbOk.away {Z : Zc} {T : Tb} {w w' : Wd} (h : TbOk Z T w) (hn : Same w.N w'.N) (hm : w'.m = w.m) (hb : ∀ a ∈ w.m, w.B a = none → w'.B a = none) (hh : ∀ a ∈ w.m, ∀ o, w.H a = some o → w'.H a = some o) : TbOk Z T w' where
  len := by rw [hm]; exact h.len
  nd := by rw [hm]; exact h.nd
  hh := fun a ha e => by
    rw [hm] at ha
    cases q : w.H a with
    | none => exact h.hh a ha q
    | some o => rw [hh a ha o q] at e; cases e
  at_ := fun n M e => by
    obtain ⟨a, h1, h2, h3⟩ := h.at_ n M e
    have ha := List.mem_of_getElem? h1
    exact ⟨a, by rw [hm]; exact h1, hb a ha h2, h3.mono hn (by rw [hm]; exact List.prefix_refl _) (hh a ha)⟩
/-! frames -/
def SlOk (Z : Zc) (w : Wd) (o : Option V) : Sl → Prop
  | .un => True
  | .val t d => ∃ v, o = some v ∧ (t = .N ∧ Rp Z w.N v d ∨ t = .B ∧ Rp Z w.B v d)
  | .own ds => ∃ p vs, o = some (.ref p) ∧ w.H p = some (.lst vs) ∧ w.B p = none ∧ p ∉ w.m ∧ RpL Z w.N vs ds
  | .han n => ∃ a, o = some (.ref a) ∧ w.m[n]? = some a
structure Wok (Z : Zc) (env : Ev) (σ : L2.St) (w : Wd) : Prop where
  wf : Wf w
  len : σ.length = env.s.length
  sl : ∀ (i : Nat) (s : Sl), env.s[i]? = some s → ∃ o : Option V, σ[i]? = some o ∧ SlOk Z w o s
  dj : ∀ (i j : Nat) (ds es : List D) (p : Addr), i ≠ j → env.s[i]? = some (.own ds) → env.s[j]? = some (.own es) → σ[i]? = some (some (.ref p)) → σ[j]? ≠ some (some (.ref p))
  tb : TbOk Z env.t w
theorem SlOk.mono {Z : Zc} {w w' : Wd} (g : Gr w w') {o : Option V} : ∀ {s : Sl}, SlOk Z w o s → SlOk Z w' o s
  | .un, _ => trivial
  | .val _ _, ⟨v, e, h⟩ => ⟨v, e, h.imp (fun ⟨a, b⟩ => ⟨a, Rp.mono g.n b⟩) fun ⟨a, b⟩ => ⟨a, Rp.mono g.b b⟩⟩
  | .own _, ⟨p, vs, e, h, b, hm, r⟩ => ⟨p, vs, e, g.h _ _ h, own_mono g h b, by rw [g.m]; exact hm, RpL.mono g.n r⟩
  | .han _, ⟨a, e, h⟩ => ⟨a, e, by rw [g.m]; exact h⟩
theorem Wok.mono {Z : Zc} {env : Ev} {σ : L2.St} {w w' : Wd} (k : Wok Z env σ w) (g : Gr w w') : Wok Z env σ w' :=
  ⟨g.wf, k.len, fun i s e => let ⟨o, h, q⟩ := k.sl i s e; ⟨o, h, q.mono g⟩, k.dj, k.tb.mono g⟩
/-! readings -/
def tE (Z : Zc) (f : FE) : TE := fun σ H Q => ∃ env w r, w.H = H ∧ Wok Z env σ w ∧ f env = some r ∧ ∀ v w', Gr w w' → RV Z w' r v → Q v w'.H
def tA (Z : Zc) (f : FA) : TA := fun σ H Q => ∃ env w rs, w.H = H ∧ Wok Z env σ w ∧ f env = some rs ∧ ∀ vs w', Gr w w' → RVs Z w' rs vs → Q vs w'.H
def tT (Z : Zc) (f : FT) : TT := fun σ H Q => ∃ env w b, w.H = H ∧ Wok Z env σ w ∧ f env = some b ∧ ∀ w', Gr w w' → Q b w'.H
def OutOk (Z : Zc) (D : Ends) (w : Wd) : Out → Prop
  | .nx e => ∀ σ' w', Gs w w' → Wok Z e σ' w' → D.nx σ' w'.H
  | .rt r => ∀ v w', Gs w w' → RV Z w' r v → D.rt v w'.H
  | .bk e => ∀ σ' w', Gs w w' → Wok Z e σ' w' → D.bk σ' w'.H
  | .ct e => ∀ σ' w', Gs w w' → Wok Z e σ' w' → D.ct σ' w'.H
  | .rth x T => ∀ v w', Gs w w' → HvOk Z w' v x → TbOk Z T w' → D.rt v w'.H
def tS (Z : Zc) (f : FS) : TS := fun D σ H => ∃ env w out, w.H = H ∧ Wok Z env σ w ∧ f env = some out ∧ OutOk Z D w out
theorem OutOk.mono {Z : Zc} {D : Ends} {w w' : Wd} (g : Gs w w') : ∀ {out : Out}, OutOk Z D w out → OutOk Z D w' out
  | .nx _, h => fun σ' w2 g2 => h σ' w2 (g.trans g2)
  | .rt _, h => fun v w2 g2 => h v w2 (g.trans g2)
  | .bk _, h => fun σ' w2 g2 => h σ' w2 (g.trans g2)
  | .ct _, h => fun σ' w2 g2 => h σ' w2 (g.trans g2)
  | .rth _ _, h => fun v w2 g2 => h v w2 (g.trans g2)
section
variable {X : Cx} {Z : Zc} {e : Expr} {es : List Expr}
theorem pe_w {t t' : TE} (h : PE X e t) (hw : ∀ σ H Q, t' σ H Q → t σ H Q) : PE X e t' := ⟨fun pins s σ H Q I q => h.run pins s σ H Q I (hw _ _ _ q)⟩
theorem pt_w {t t' : TT} (h : PT X e t) (hw : ∀ σ H Q, t' σ H Q → t σ H Q) : PT X e t' := ⟨fun pins s σ H Q I q => h.run pins s σ H Q I (hw _ _ _ q)⟩
theorem pw_w {t t' : TT} (h : PW X e t) (hw : ∀ σ H Q, t' σ H Q → t σ H Q) : PW X e t' := ⟨fun wh pins s σ H Q I q => h.run wh pins s σ H Q I (hw _ _ _ q)⟩
theorem pa_w {t t' : TA} (h : PA X es t) (hw : ∀ σ H Q, t' σ H Q → t σ H Q) : PA X es t' := ⟨fun ps pins s σ H Q I q => h.run ps pins s σ H Q I (hw _ _ _ q)⟩
theorem ps_w {st : Stmt} {t t' : TS} (h : PS X st t) (hw : ∀ D σ H, t' D σ H → t D σ H) : PS X st t' := ⟨fun pins s σ H D I q => h.run pins s σ H D I (hw _ _ _ q)⟩
theorem pss_w {st : List Stmt} {t t' : TS} (h : PSs X st t) (hw : ∀ D σ H, t' D σ H → t D σ H) : PSs X st t' := ⟨fun pins s σ H D I q => h.run pins s σ H D I (hw _ _ _ q)⟩
end
end Vf
namespace Vf
open PySem L2
abbrev zx (X : Cx) (cl : Str → Option Addr) : Zc := ⟨X.K, cl⟩
structure XS (X : Cx) : Prop where
  calm : X.calm = true
  nd : X.N.Nodup
  hu : X.A.units + 65 < cLine
def lim : Nat := 1000000
theorem lim_le {n : Nat} (h : n ≤ lim) : n ≤ sizeLine := Nat.le_trans h (by decide)
theorem lim_lt {n : Nat} (h : n ≤ lim) : n < sizeLine := Nat.lt_of_le_of_lt h (by decide)
/-! what things are worth -/
def sVar (i : Nat) : FE := fun env => match env.s[i]? with
  | some (.val t d) => some (nm (t, d))
  | some (.own ds) => some (.O, .lst ds)
  | _ => none
@[simp] def sLit (d : D) : FE := fun _ => some (.N, d)
@[simp] def sOp (o : TD → TD → Option TD) (f g : FE) : FE := fun env => (f env).bind fun x => (g env).bind fun y => o x y
@[simp] def sUn (o : TD → Option TD) (f : FE) : FE := fun env => (f env).bind o
@[simp] def sNil : FA := fun _ => some []
@[simp] def sCons (f : FE) (g : FA) : FA := fun env => (f env).bind fun x => (g env).bind fun xs => some (x :: xs)
@[simp] def sB (o : List TD → Option TD) (g : FA) : FE := fun env => (g env).bind o
@[simp] def sIfe (c : FT) (f g : FE) : FE := fun env => (c env).bind fun b => if b then f env else g env
def tru (r : TD) : Option Bool := match r.2 with
  | .non => some false
  | .bl b => some b
  | .int i => some (i != 0)
  | .str s => if s.length ≤ lim then some ((s.length : Int) != 0) else none
  | .lst xs => some (!xs.isEmpty)
  | .scr xs => some (!xs.isEmpty)
  | .tup xs => some (!xs.isEmpty)
  | _ => none
@[simp] def sTru (f : FE) : FT := fun env => (f env).bind tru
def asB (r : TD) : Option Bool := match r.2 with | .bl b => some b | _ => none
@[simp] def sBl (f : FE) : FT := fun env => (f env).bind asB
@[simp] def sAndT (c d : FT) : FT := fun env => (c env).bind fun b => if b then d env else some false
@[simp] def sOrT (c d : FT) : FT := fun env => (c env).bind fun b => if b then some true else d env
@[simp] def sNotT (c : FT) : FT := fun env => (c env).map fun b => !b
/-- and, or, not as values, the left one a bool -/
@[simp] def sAndV (f g : FE) : FE := fun env => ((f env).bind asB).bind fun b => if b then g env else some (.N, .bl false)
@[simp] def sOrV (f g : FE) : FE := fun env => ((f env).bind asB).bind fun b => if b then some (.N, .bl true) else g env
@[simp] def sNotV (f : FE) : FE := fun env => ((f env).bind asB).map fun b => (.N, .bl (!b))
/-- a < b < c -/
@[simp] def sCh (o p : TD → TD → Option TD) (f g h : FE) : FE := fun env => (f env).bind fun x => (g env).bind fun y => ((o x y).bind asB).bind fun b => if b then (h env).bind fun z => p y z else some (.N, .bl false)
section
variable {Z : Zc} {w : Wd}
theorem rv_s {t : Tg} {d : D} {v : V} (hw : Wf w) (hs : isS d = true) (h : RV Z w (t, d) v) : v = vOf d := rp_val hs (h.top hw)
theorem rv_int {t : Tg} {i : Int} {v : V} (hw : Wf w) (h : RV Z w (t, .int i) v) : v = .int i := rv_s hw rfl h
theorem rv_str {t : Tg} {z : Str} {v : V} (hw : Wf w) (h : RV Z w (t, .str z) v) : v = .str z := rv_s hw rfl h
theorem rv_bl {t : Tg} {b : Bool} {v : V} (hw : Wf w) (h : RV Z w (t, .bl b) v) : v = .bl b := rv_s hw rfl h
theorem rv_non {t : Tg} {v : V} (hw : Wf w) (h : RV Z w (t, .non) v) : v = .non := rv_s hw rfl h
theorem nN (d : D) (hs : isS d = true) : RV Z w (.N, d) (vOf d) := rp_of (Z := Z) (H := w.N) hs
theorem asB_some {r : TD} {b : Bool} (h : asB r = some b) : r.2 = .bl b := by
  obtain ⟨t, d⟩ := r
  unfold asB at h
  dsimp only at h
  split at h
  · cases h; rfl
  · cases h
end
/-! ### expressions -/
section
variable {X : Cx} {cl : Str → Option Addr} {a b c : Expr} {es : List Expr} {f g h : FE} {fa : FA} {ct dt : FT} {pos : Pos}
theorem je_var (i : Nat) {x : Str} {pos : Pos} (hN : X.N[i]? = some x := by rfl) (hv : Vis X.env.scope x := by first | exact Or.inl rfl | exact Or.inr (Or.inl rfl) | exact Or.inr (Or.inr rfl))
    (hd : (x == ("__debug__" : Str)) = false := by decide) (hcd : (x == ("__classdict__" : Str)) = false := by decide) : PE X (.Name x pos) (tE (zx X cl) (sVar i)) := by
  refine pe_w (pe_var (i := i) hN hv hd hcd) fun σ H Q ⟨env, w, r, e, k, hr, q⟩ => ?_
  subst e
  unfold sVar at hr
  split at hr
  · rename_i t d he
    cases hr
    obtain ⟨o, ho, v, rfl, hv⟩ := k.sl i _ he
    refine ⟨v, ho, q v w (Gr.refl k.wf) (RV.nm k.wf ?_)⟩
    rcases hv with ⟨rfl, hv⟩ | ⟨rfl, hv⟩ <;> exact hv
  · rename_i ds he
    cases hr
    obtain ⟨o, ho, p, vs, rfl, h1, h2, _, h3⟩ := k.sl i _ he
    exact ⟨_, ho, q _ w (Gr.refl k.wf) ⟨p, vs, ds, rfl, rfl, h1, h2, h3⟩⟩
  · cases hr
theorem je_lit {d : D} {e : Expr} (h : PE X e (tC (vOf d))) (hs : isS d = true) : PE X e (tE (zx X cl) (sLit d)) :=
  pe_w h fun σ H Q ⟨env, w, r, e, k, hr, q⟩ => by
    subst e
    cases hr
    exact q _ w (Gr.refl k.wf) (nN d hs)
theorem je_int {i : Int} {j : Nat} {pos : Pos} : PE X (.Constant (.int i) j pos) (tE (zx X cl) (sLit (.int i))) := je_lit (d := .int i) pe_int rfl
theorem je_bl {b : Bool} {j : Nat} {pos : Pos} : PE X (.Constant (.bool b) j pos) (tE (zx X cl) (sLit (.bl b))) := je_lit (d := .bl b) pe_bl rfl
theorem je_str {z : Str} {j : Nat} {pos : Pos} : PE X (.Constant (.str z) j pos) (tE (zx X cl) (sLit (.str z))) := je_lit (d := .str z) pe_str rfl
/-- operators by data -/
def rO (Z : Zc) (o : TD → TD → Option TD) : R2 := fun x y H Q => ∃ w rx ry z, w.H = H ∧ Wf w ∧ RV Z w rx x ∧ RV Z w ry y ∧ o rx ry = some z ∧ ∀ v w', Gr w w' → RV Z w' z v → Q v w'.H
theorem sOp_rd {o : TD → TD → Option TD} {σ : L2.St} {H : Hp} {Q : VK} {Z : Zc} (hh : tE Z (sOp o f g) σ H Q) : tOp (rO Z o) (tE Z f) (tE Z g) σ H Q := by
  obtain ⟨env, w, r, e, k, hr, q⟩ := hh
  subst e
  obtain ⟨x, hx, hr⟩ := Option.bind_eq_some_iff.mp hr
  obtain ⟨y, hy, hr⟩ := Option.bind_eq_some_iff.mp hr
  refine ⟨env, w, x, rfl, k, hx, fun v w1 g1 r1 => ⟨env, w1, y, rfl, k.mono g1, hy, fun u w2 g2 r2 => ?_⟩⟩
  exact ⟨w2, x, y, r, rfl, g2.wf, r1.mono g2, r2, hr, fun v' w3 g3 r3 => q v' w3 ((g1.trans g2).trans g3) r3⟩
theorem je_op {op : Operator} {o : TD → TD → Option TD} (ho : OpR X (binaryOp op) (rO (zx X cl) o)) (ha : PE X a (tE (zx X cl) f)) (hb : PE X b (tE (zx X cl) g)) : PE X (.BinOp a op b pos) (tE (zx X cl) (sOp o f g)) :=
  pe_w (pe_op ho ha hb) fun _ _ _ hh => sOp_rd hh
theorem je_cmp {op : CmpOp} {o : TD → TD → Option TD} (ho : OpR X (compareOp op) (rO (zx X cl) o)) (ha : PE X a (tE (zx X cl) f)) (hb : PE X b (tE (zx X cl) g)) (hm : behindInMarks op b = false := by first | exact nomark _ | rfl) : PE X (.Compare a [op] [b] pos) (tE (zx X cl) (sOp o f g)) :=
  pe_w (pe_cmpR ho ha hb hm) fun _ _ _ hh => sOp_rd hh
/-- a value that is a bool, as a test -/
theorem sBl_rd {σ : L2.St} {H : Hp} {Q : Bool → Hp → Prop} {Z : Zc} (hh : tT Z (sBl f) σ H Q) : tE Z f σ H fun x H' => ∃ k, x = .bl k ∧ Q k H' := by
  obtain ⟨env, w, r, e, k, hr, q⟩ := hh
  subst e
  obtain ⟨x, hx, hr⟩ := Option.bind_eq_some_iff.mp hr
  refine ⟨env, w, x, rfl, k, hx, fun v w1 g1 r1 => ⟨r, ?_, q w1 g1⟩⟩
  obtain ⟨t, d⟩ := x
  cases asB_some hr
  exact rv_bl g1.wf r1
theorem jt_cmp {op : CmpOp} {o : TD → TD → Option TD} (ho : OpR X (compareOp op) (rO (zx X cl) o)) (ha : PE X a (tE (zx X cl) f)) (hb : PE X b (tE (zx X cl) g)) (hm : behindInMarks op b = false := by first | exact nomark _ | rfl) : PT X (.Compare a [op] [b] pos) (tT (zx X cl) (sBl (sOp o f g))) :=
  pt_w (pt_cmpR ho ha hb hm) fun σ H Q hh => sOp_rd (Q := fun x H' => ∃ k, x = .bl k ∧ Q k H') (sBl_rd hh)
theorem tru_v {r : TD} {v : V} {w : Wd} {k : Bool} {Z : Zc} (hw : Wf w) (hr : tru r = some k) (h : RV Z w r v) : TruV Z.K v w.H k := by
  obtain ⟨t, d⟩ := r
  unfold tru at hr
  dsimp only at hr
  split at hr
  · cases hr; rw [rv_non hw h]; exact rfl
  · cases hr; rw [rv_bl hw h]; exact rfl
  · cases hr; rw [rv_int hw h]; exact rfl
  · split at hr
    · rename_i hl
      cases hr; rw [rv_str hw h]; exact ⟨lim_le hl, rfl⟩
    · cases hr
  · cases hr
    obtain ⟨p, vs, rfl, h1, h2⟩ := h.lst hw
    refine .inl ⟨vs, SqL.of h1, ?_⟩
    cases h2 <;> rfl
  · cases hr
    obtain ⟨p, vs, rfl, h1, h2⟩ := h.scr hw
    refine .inl ⟨vs, h1, ?_⟩
    cases h2 <;> rfl
  · cases hr
    obtain ⟨p, vs, rfl, h1, h2⟩ := h.tup hw
    refine .inr (.inl ⟨vs, h1, ?_⟩)
    cases h2 <;> rfl
  · cases hr
/-- any value by its truth, as a test -/
theorem jt_v (ha : PE X a (tE (zx X cl) f)) (he : ∀ whole, isTrue a X.env whole = (do let v ← whole; standAt a.pos; holding [v] (truthy v)) := by intro _; rfl) : PT X a (tT (zx X cl) (sTru f)) := by
  refine pt_w (pt_truth ha he) fun σ H Q ⟨env, w, r, e, k, hr, q⟩ => ?_
  subst e
  obtain ⟨x, hx, hr⟩ := Option.bind_eq_some_iff.mp hr
  exact ⟨env, w, x, rfl, k, hx, fun v w1 g1 r1 => ⟨r, tru_v g1.wf hr r1, q w1 g1⟩⟩
theorem jt_not (ha : PT X a (tT (zx X cl) ct)) : PT X (.UnaryOp .Not a pos) (tT (zx X cl) (sNotT ct)) := by
  refine pt_w (pt_not ha) fun σ H Q ⟨env, w, r, e, k, hr, q⟩ => ?_
  subst e
  obtain ⟨x, hx, hr⟩ := Option.map_eq_some_iff.mp hr
  subst hr
  exact ⟨env, w, x, rfl, k, hx, fun w1 g1 => q w1 g1⟩
theorem jw_and1 (ha : PT X a (tT (zx X cl) ct)) : PW X (.BoolOp .And [a] pos) (tT (zx X cl) ct) := pw_and1 ha
theorem jw_or1 (ha : PT X a (tT (zx X cl) ct)) : PW X (.BoolOp .Or [a] pos) (tT (zx X cl) ct) := pw_or1 ha
theorem jw_and (ha : PT X a (tT (zx X cl) ct)) (hb : PW X (.BoolOp .And (b :: es) pos) (tT (zx X cl) dt)) : PW X (.BoolOp .And (a :: b :: es) pos) (tT (zx X cl) (sAndT ct dt)) := by
  refine pw_w (pw_and ha hb) fun σ H Q ⟨env, w, r, e, k, hr, q⟩ => ?_
  subst e
  obtain ⟨x, hx, hr⟩ := Option.bind_eq_some_iff.mp hr
  refine ⟨env, w, x, rfl, k, hx, fun w1 g1 => ?_⟩
  cases x with
  | true => exact ⟨env, w1, r, rfl, k.mono g1, hr, fun w2 g2 => q w2 (g1.trans g2)⟩
  | false =>
    cases hr
    exact q w1 g1
theorem jw_or (ha : PT X a (tT (zx X cl) ct)) (hb : PW X (.BoolOp .Or (b :: es) pos) (tT (zx X cl) dt)) : PW X (.BoolOp .Or (a :: b :: es) pos) (tT (zx X cl) (sOrT ct dt)) := by
  refine pw_w (pw_or ha hb) fun σ H Q ⟨env, w, r, e, k, hr, q⟩ => ?_
  subst e
  obtain ⟨x, hx, hr⟩ := Option.bind_eq_some_iff.mp hr
  refine ⟨env, w, x, rfl, k, hx, fun w1 g1 => ?_⟩
  cases x with
  | false => exact ⟨env, w1, r, rfl, k.mono g1, hr, fun w2 g2 => q w2 (g1.trans g2)⟩
  | true =>
    cases hr
    exact q w1 g1
theorem jt_w (ha : PW X a (tT (zx X cl) ct)) : PT X a (tT (zx X cl) ct) := ha.pt
theorem je_and1 (ha : PE X a (tE (zx X cl) f)) : PE X (.BoolOp .And [a] pos) (tE (zx X cl) f) := pe_one ha
theorem je_and (ha : PE X a (tE (zx X cl) f)) (hb : PE X (.BoolOp .And (b :: es) pos) (tE (zx X cl) g)) : PE X (.BoolOp .And (a :: b :: es) pos) (tE (zx X cl) (sAndV f g)) := by
  refine pe_w (pe_and ha hb) fun σ H Q ⟨env, w, r, e, k, hr, q⟩ => ?_
  subst e
  obtain ⟨x, hx, hr⟩ := Option.bind_eq_some_iff.mp hr
  obtain ⟨y, hy, hx⟩ := Option.bind_eq_some_iff.mp hx
  refine ⟨env, w, y, rfl, k, hy, fun v w1 g1 r1 => ⟨x, ?_, ?_⟩⟩
  · obtain ⟨t, d⟩ := y
    cases asB_some hx
    exact rv_bl g1.wf r1
  · cases x with
    | true => exact ⟨env, w1, r, rfl, k.mono g1, hr, fun v w2 g2 r2 => q v w2 (g1.trans g2) r2⟩
    | false =>
      cases hr
      exact q _ w1 g1 (nN (.bl false) rfl)
theorem je_not (ha : PE X a (tE (zx X cl) f)) : PE X (.UnaryOp .Not a pos) (tE (zx X cl) (sNotV f)) := by
  refine pe_w (pe_not ha) fun σ H Q ⟨env, w, r, e, k, hr, q⟩ => ?_
  subst e
  obtain ⟨x, hx, hr⟩ := Option.map_eq_some_iff.mp hr
  obtain ⟨y, hy, hx⟩ := Option.bind_eq_some_iff.mp hx
  subst hr
  refine ⟨env, w, y, rfl, k, hy, fun v w1 g1 r1 => ⟨x, ?_, q _ w1 g1 (nN (.bl (!x)) rfl)⟩⟩
  obtain ⟨t, d⟩ := y
  cases asB_some hx
  exact rv_bl g1.wf r1
/-! arguments -/
theorem ja_nil : PA X [] (tA (zx X cl) sNil) := by
  refine pa_w pa_nil fun σ H Q ⟨env, w, r, e, k, hr, q⟩ => ?_
  subst e
  cases hr
  exact q [] w (Gr.refl k.wf) trivial
theorem ja_cons (ha : PE X a (tE (zx X cl) f)) (hr : PA X es (tA (zx X cl) fa)) (hs : starEach (a :: es) X.env = (false, eval a X.env) :: starEach es X.env := by rfl) : PA X (a :: es) (tA (zx X cl) (sCons f fa)) := by
  refine pa_w (pa_cons ha hr hs) fun σ H Q ⟨env, w, r, e, k, hr, q⟩ => ?_
  subst e
  obtain ⟨x, hx, hr⟩ := Option.bind_eq_some_iff.mp hr
  obtain ⟨xs, hxs, hr⟩ := Option.bind_eq_some_iff.mp hr
  cases hr
  exact ⟨env, w, x, rfl, k, hx, fun v w1 g1 r1 => ⟨env, w1, xs, rfl, k.mono g1, hxs, fun vs w2 g2 r2 => q _ w2 (g1.trans g2) ⟨r1.mono g2, r2⟩⟩⟩
/-- built-ins by data -/
def rC (Z : Zc) (o : List TD → Option TD) : List V → Hp → VK → Prop := fun xs H Q => ∃ w rs z, w.H = H ∧ Wf w ∧ RVs Z w rs xs ∧ o rs = some z ∧ ∀ v w', Gr w w' → RV Z w' z v → Q v w'.H
theorem sB_rd {o : List TD → Option TD} {σ : L2.St} {H : Hp} {Q : VK} {Z : Zc} (hh : tE Z (sB o fa) σ H Q) : tA Z fa σ H fun xs H1 => rC Z o xs H1 Q := by
  obtain ⟨env, w, r, e, k, hr, q⟩ := hh
  subst e
  obtain ⟨x, hx, hr⟩ := Option.bind_eq_some_iff.mp hr
  exact ⟨env, w, x, rfl, k, hx, fun vs w1 g1 r1 => ⟨w1, x, r, rfl, g1.wf, r1, hr, fun v w2 g2 r2 => q v w2 (g1.trans g2) r2⟩⟩
theorem je_b {id : String} {x : Str} {p : Pos} {o : List TD → Option TD} (hc : CallR X (.builtin id) (rC (zx X cl) o)) (hm : X.mg x = none) (hv : bootBuiltins x = some (.builtin id)) (ha : PA X (a :: es) (tA (zx X cl) fa)) (hg : Gl X x := by rfl)
    (hn : x ≠ "__name__" := by decide) (hdb : (x == ("__debug__" : Str)) = false := by decide) (he : starEach (a :: es) X.env = (false, eval a X.env) :: starEach es X.env := by rfl) (hpl : (backTo pos (starEach es X.env)).any (·.1) = false := by rfl) :
    PE X (.Call (.Name x p) (a :: es) [] pos) (tE (zx X cl) (sB o fa)) := pe_w (pe_callB hc hg hm hv ha hn hdb he hpl) fun _ _ _ hh => sB_rd hh
theorem je_ty {T : String} {x : Str} {p : Pos} {o : List TD → Option TD} (hc : CallR X (.type T) (rC (zx X cl) o)) (hm : X.mg x = none) (hv : bootBuiltins x = some (.type T)) (ha : PA X (a :: es) (tA (zx X cl) fa)) (hg : Gl X x := by rfl)
    (hn : x ≠ "__name__" := by decide) (hdb : (x == ("__debug__" : Str)) = false := by decide) (he : starEach (a :: es) X.env = (false, eval a X.env) :: starEach es X.env := by rfl) (hpl : (backTo pos (starEach es X.env)).any (·.1) = false := by rfl) :
    PE X (.Call (.Name x p) (a :: es) [] pos) (tE (zx X cl) (sB o fa)) := pe_w (pe_callTy hc hg hm hv ha hn hdb he hpl) fun _ _ _ hh => sB_rd hh
end
end Vf
namespace Vf
open PySem L2
/-! ### operators, by data -/
def bitsOk (i j : Int) : Bool := decide (Builtin.Int.intBits i + Builtin.Int.intBits j ≤ 134217728)
def cell (t : Tg) : Tg := match t with | .O => .T | t => t
/-- the tag of a thing that holds these -/
def tagL : List TD → Tg
  | [] => .N
  | r :: rs => mt2 (cell r.1) (tagL rs)
def catL (a b : TD) : Option (Tg × List D) := match a.2, b.2 with
  | .lst xs, .lst ys => if xs.length + ys.length ≤ lim then some (mt2 (el a.1) (el b.1), xs ++ ys) else none
  | _, _ => none
def oAdd (a b : TD) : Option TD := match a.2, b.2 with
  | .int i, .int j => some (.N, .int (i + j))
  | .str x, .str y => if x.length + y.length ≤ lim then some (.N, .str (x ++ y)) else none
  | .tup xs, .tup ys => if xs.length + ys.length ≤ lim then some (mt2 (el a.1) (el b.1), .tup (xs ++ ys)) else none
  | .lst xs, .lst ys => if xs.length + ys.length ≤ lim then some (mt2 (el a.1) (el b.1), .lst (xs ++ ys)) else none
  | _, _ => none
def oSub (a b : TD) : Option TD := match a.2, b.2 with
  | .int i, .int j => some (.N, .int (i - j))
  | _, _ => none
def repS (z : Str) (n : Nat) : Str := ⟨(List.replicate n z.cps.toList).flatten.toArray⟩
noncomputable def oMul (a b : TD) : Option TD := match a.2, b.2 with
  | .int i, .int j => cif (bitsOk i j = true) (some (.N, .int (i * j))) none
  | .lst xs, .int k => cif (k.natAbs ≤ lim ∧ xs.length * k.toNat ≤ lim) (some (el a.1, .lst (List.replicate k.toNat xs).flatten)) none
  | .str z, .int k => cif (0 ≤ k ∧ k.natAbs ≤ lim ∧ z.length * k.toNat ≤ lim) (some (.N, .str (repS z k.toNat))) none
  | _, _ => none
noncomputable def oFd (a b : TD) : Option TD := match a.2, b.2 with
  | .int i, .int j => cif (0 < j ∧ j < 18446744073709551616) (some (.N, .int (i / j))) none
  | _, _ => none
noncomputable def oMod (a b : TD) : Option TD := match a.2, b.2 with
  | .int i, .int j => cif (0 < j) (some (.N, .int (i % j))) none
  | _, _ => none
noncomputable def oPow (a b : TD) : Option TD := match a.2, b.2 with
  | .int i, .int j => cif (0 ≤ j ∧ j ≤ 1000000 ∧ i.natAbs < 18446744073709551616) (some (.N, .int (i ^ j.toNat))) none
  | _, _ => none
mutual
def py : D → PyData
  | .non => .none | .bl b => .bool b | .int i => .int i | .str s => .str s
  | .lst xs => .list (pyL xs) | .scr xs => .list (pyL xs) | .tup xs => .tuple (pyL xs)
  | .ins _ _ _ => .none | .dic _ _ => .none
def pyL : List D → List PyData
  | [] => []
  | x :: xs => py x :: pyL xs
end
mutual
def pyOk : D → Bool
  | .non => true | .bl _ => true | .int _ => true | .str _ => true
  | .lst xs => pyOkL xs | .scr xs => pyOkL xs | .tup xs => pyOkL xs
  | .ins _ _ _ => false | .dic _ _ => false
def pyOkL : List D → Bool
  | [] => true
  | x :: xs => pyOk x && pyOkL xs
end
def eqD (a b : D) : Option Bool := match a, b with
  | .int i, .int j => some (decide (i = j))
  | .str x, .str y => some (decide (x = y))
  | .bl x, .bl y => some (decide (x = y))
  | .non, .non => some true
  | .int _, .non => some false
  | .non, .int _ => some false
  | .str _, .non => some false
  | .non, .str _ => some false
  | .int _, .str _ => some false
  | .str _, .int _ => some false
  | a, b => if pyOk a && pyOk b && SeqAt.shaped (py a) && SeqAt.shaped (py b) then some (PyData.eqv (py a) (py b)) else none
def oEq (a b : TD) : Option TD := (eqD a.2 b.2).map fun k => (.N, .bl k)
def oNe (a b : TD) : Option TD := (eqD a.2 b.2).map fun k => (.N, .bl (!k))
noncomputable def oLt (a b : TD) : Option TD := match a.2, b.2 with | .int i, .int j => some (.N, .bl (cdec (i < j))) | _, _ => none
noncomputable def oLe (a b : TD) : Option TD := match a.2, b.2 with | .int i, .int j => some (.N, .bl (cdec (i ≤ j))) | _, _ => none
noncomputable def oGt (a b : TD) : Option TD := match a.2, b.2 with | .int i, .int j => some (.N, .bl (cdec (j < i))) | _, _ => none
noncomputable def oGe (a b : TD) : Option TD := match a.2, b.2 with | .int i, .int j => some (.N, .bl (cdec (j ≤ i))) | _, _ => none
def eqS (x y : D) : Bool := eqV (vOf x) (vOf y)
/-- a dict's key -/
def keyD : D → Option Key
  | .int i => some (.inl i)
  | .str s => some (.inr s)
  | _ => none
/-- what stands at a key -/
def dgt {α : Type} : List Key → List α → Key → Option α
  | k :: ks, x :: xs, q => if k = q then some x else dgt ks xs q
  | _, _, _ => none
theorem dgt_val : ∀ (ks : List Key) (xs : List L2.V) (q : Key), valV (ks.zip xs) q = dgt ks xs q
  | [], _, _ => rfl
  | _ :: _, [], _ => rfl
  | k :: ks, x :: xs, q => by
    unfold dgt
    by_cases e : k = q
    · rw [if_pos e]; exact valV_pos (p := (k, x)) e
    · rw [if_neg e, ← dgt_val ks xs q]; exact valV_neg (p := (k, x)) e
def hasK (ks : List Key) (q : Key) : Bool := ks.any fun k => decide (k = q)
theorem dgt_some {α : Type} : ∀ {ks : List Key} {xs : List α} {q : Key}, xs.length = ks.length → (dgt ks xs q).isSome = hasK ks q
  | [], xs, q, _ => by cases xs <;> rfl
  | k :: ks, [], q, h => by cases h
  | k :: ks, x :: xs, q, h => by
    have ih := dgt_some (q := q) (show xs.length = ks.length by simpa using h)
    unfold dgt
    by_cases e : k = q
    · simp [e, hasK]
    · rw [if_neg e, ih]
      simp [hasK, e]
theorem dgt_rp {Z : Zc} {H : Hp} : ∀ {ks : List Key} {vs : List V} {ds : List D} {q : Key} {d : D}, RpL Z H vs ds → dgt ks ds q = some d → ∃ v, dgt ks vs q = some v ∧ Rp Z H v d
  | [], _, _, _, _, _, h => by cases h
  | _ :: _, _, _, _, _, .nil, h => by cases h
  | k :: ks, _, _, q, d, .cons h r, e => by
    unfold dgt at e ⊢
    by_cases c : k = q
    · rw [if_pos c] at e ⊢; cases e; exact ⟨_, rfl, h⟩
    · rw [if_neg c] at e ⊢; exact dgt_rp r e
theorem keyD_v {d : D} {k : Key} (h : keyD d = some k) : isS d = true ∧ vOf d = kV k := by
  cases d <;> cases h <;> exact ⟨rfl, rfl⟩
def inD (a b : D) : Option Bool := match b with
  | .lst xs => if isS a && xs.all isS then some (xs.any fun y => eqS y a) else none
  | .scr xs => if isS a && xs.all isS then some (xs.any fun y => eqS y a) else none
  | .tup xs => if isS a && xs.all isS then some (xs.any fun y => eqS y a) else none
  | .str z => match a with
    | .str s => if s.length = 1 then some (decide (s.cps.getD 0 0 ∈ z.cps.toList)) else none
    | _ => none
  | .dic ks ds => (keyD a).map fun k => hasK ks k
  | _ => none
def oIn (a b : TD) : Option TD := (inD a.2 b.2).map fun k => (.N, .bl k)
def isD (a b : D) : Option Bool := match b with
  | .non => match a with | .non => some true | _ => some false
  | .bl y => match a with | .bl x => some (decide (x = y)) | _ => none
  | _ => none
def oIs (a b : TD) : Option TD := (isD a.2 b.2).map fun k => (.N, .bl k)
def oIsN (a b : TD) : Option TD := (isD a.2 b.2).map fun k => (.N, .bl (!k))
def ixD (a : TD) (i : Int) : Option TD := match a.2 with
  | .lst xs => (atI xs i).map fun d => nm (el a.1, d)
  | .scr xs => (atI xs i).map fun d => nm (el a.1, d)
  | .tup xs => (atI xs i).map fun d => nm (el a.1, d)
  | .str z => if z.length ≤ lim then (atI z.cps.toList i).map fun c => (.N, .str ⟨#[c]⟩) else none
  | .dic ks ds => (dgt ks ds (.inl i)).map fun d => nm (el a.1, d)
  | _ => none
def ixS (a : TD) (z : Str) : Option TD := match a.2 with
  | .dic ks ds => (dgt ks ds (.inr z)).map fun d => nm (el a.1, d)
  | _ => none
def oIx (a b : TD) : Option TD := match b.2 with | .int i => ixD a i | .str z => ixS a z | _ => none
section
variable {Z : Zc} {w : Wd}
theorem fin1 {Q : VK} {d : D} {H : Hp} (hw : Wf w) (e : w.H = H) (hs : isS d = true) (q : ∀ v w', Gr w w' → RV Z w' (.N, d) v → Q v w'.H) : Q (vOf d) H := by
  subst e
  exact q _ w (Gr.refl hw) (nN d hs)
theorem tagL_ne : ∀ rs, tagL rs ≠ .O
  | [] => by decide
  | r :: rs => mt2_ne _ _
theorem cell_rv {t : Tg} {d : D} {v : V} (hw : Wf w) (h : RV Z w (t, d) v) : RV Z w (cell t, d) v := by
  cases t with
  | O => exact h.top hw
  | N => exact h
  | B => exact h
  | T => exact h
theorem rvs_items (hw : Wf w) : ∀ {rs : List TD} {vs : List V}, RVs Z w rs vs → RpL Z (w.rd (tagL rs)) vs (rs.map (·.2))
  | [], [], _ => .nil
  | (t, d) :: rs, v :: vs, ⟨h, r⟩ => by
    have h1 := cell_rv hw h
    have hc : cell t ≠ .O := by cases t <;> decide
    have h2 := RV.rp hc h1
    refine .cons (Rp.mono ?_ h2) (RpL.mono ?_ (rvs_items hw r))
    · show Same (w.rd (cell t)) (w.rd (mt2 (cell t) (tagL rs)))
      cases t <;> cases tagL rs <;> first | exact .refl _ | exact hw.nb | exact hw.bh | exact hw.nh
    · show Same (w.rd (tagL rs)) (w.rd (mt2 (cell t) (tagL rs)))
      have := tagL_ne rs
      cases h : tagL rs <;> cases t <;> first | exact .refl _ | exact hw.nb | exact hw.bh | exact hw.nh | exact (this h).elim
  | [], _ :: _, h => h.elim
  | _ :: _, [], h => h.elim
end
section
variable {X : Cx} {cl : Str → Option Addr}
theorem or_add : OpR X (binaryOp .Add) (rO (zx X cl) oAdd) := by
  rintro pins s σ H x y v u Q I rx ry ⟨w, ⟨t, d⟩, ⟨t', d'⟩, z, eH, hw, ha, hb, ho, q⟩
  unfold oAdd at ho
  dsimp only at ho
  split at ho
  · cases ho
    exact op_add pins s σ H x y v u Q I rx ry ⟨_, _, rv_int hw ha, rv_int hw hb, fin1 hw eH rfl q⟩
  · split at ho
    · rename_i hl
      cases ho
      exact op_add_str pins s σ H x y v u Q I rx ry ⟨_, _, rv_str hw ha, rv_str hw hb, lim_le hl, fin1 hw eH rfl q⟩
    · cases ho
  · split at ho
    · rename_i xs ys hl
      cases ho
      have ha' := ha
      have hb' := hb
      obtain ⟨p, vs, rfl, h1, h2⟩ := ha.tup hw
      obtain ⟨p', vs', rfl, h1', h2'⟩ := hb.tup hw
      subst eH
      refine op_catA pins s σ w.H _ _ v u Q I rx ry ⟨_, _, _, _, rfl, rfl, h1, h1', lim_le (by rw [h2.length, h2'.length]; exact hl), fun e => ?_, fun _ e => ?_, fun n1 n2 np hnp => ?_⟩
      · subst e
        cases h2
        rw [List.nil_append] at q
        refine q _ w (Gr.refl hw) (RV.of (mt2_ne _ _) (Rp.mono (mt2_r hw (el t) t') ?_))
        cases t' <;> first | exact hb' | (obtain ⟨_, _, _, _, z, _⟩ := hb'; cases z)
      · subst e
        cases h2'
        rw [List.append_nil] at q
        refine q _ w (Gr.refl hw) (RV.of (mt2_ne _ _) (Rp.mono (mt2_l hw t (el t')) ?_))
        cases t <;> first | exact ha' | (obtain ⟨_, _, _, _, z, _⟩ := ha'; cases z)
      · have g := Gr.put hw (t := mt2 (el t) (el t')) (o := .tup (vs ++ vs')) hnp
        have := q _ _ g (new_tup hw (mt2_ne _ _) hnp ((RpL.mono (mt2_l hw t (el t')) h2).append (RpL.mono (mt2_r hw (el t) t') h2')))
        rw [put_H] at this
        exact this
    · cases ho
  · split at ho
    · rename_i xs ys hl
      cases ho
      obtain ⟨p, vs, rfl, h1, h2⟩ := ha.lst hw
      obtain ⟨p', vs', rfl, h1', h2'⟩ := hb.lst hw
      subst eH
      refine op_cat pins s σ w.H _ _ v u Q I rx ry ⟨_, _, _, _, rfl, rfl, h1, h1', lim_le (by rw [h2.length, h2'.length]; exact hl), fun np hnp => ?_⟩
      have g := Gr.put hw (t := mt2 (el t) (el t')) (o := .lst (vs ++ vs')) hnp
      have := q _ _ g (new_lst hw (mt2_ne _ _) hnp ((RpL.mono (mt2_l hw t (el t')) h2).append (RpL.mono (mt2_r hw (el t) t') h2')))
      rw [put_H] at this
      exact this
    · cases ho
  · cases ho
theorem or_sub : OpR X (binaryOp .Sub) (rO (zx X cl) oSub) := by
  rintro pins s σ H x y v u Q I rx ry ⟨w, ⟨t, d⟩, ⟨t', d'⟩, z, eH, hw, ha, hb, ho, q⟩
  unfold oSub at ho
  dsimp only at ho
  split at ho
  · cases ho
    exact op_sub pins s σ H x y v u Q I rx ry ⟨_, _, rv_int hw ha, rv_int hw hb, fin1 hw eH rfl q⟩
  · cases ho
theorem bitsOk_mul {i j : Int} (h : bitsOk i j = true) : IntMulOk i j := IntMulOk.of_le (Nat.le_refl _) (Nat.le_refl _) (of_decide_eq_true h)
theorem or_mul : OpR X (binaryOp .Mult) (rO (zx X cl) oMul) := by
  rintro pins s σ H x y v u Q I rx ry ⟨w, ⟨t, d⟩, ⟨t', d'⟩, z, eH, hw, ha, hb, ho, q⟩
  unfold oMul at ho
  dsimp only at ho
  split at ho
  · unfold cif at ho
    split at ho
    · rename_i i j hl
      cases ho
      have e1 := rv_int hw ha
      have e2 := rv_int hw hb
      subst e1 e2
      obtain ⟨tx, rfl⟩ := rx
      obtain ⟨ty, rfl⟩ := ry
      exact PyProof.Rows.mul_int ⟨.int (i * j), H, I.tok _, ⟨_, rfl⟩, fin1 hw eH rfl q⟩ (bitsOk_mul hl)
    · cases ho
  · unfold cif at ho
    split at ho
    · rename_i xs k hl
      cases ho
      obtain ⟨p, vs, rfl, h1, h2⟩ := ha.lst hw
      have e2 := rv_int hw hb
      subst eH e2
      have hk : k.natAbs ≤ 1000000 := hl.1
      refine op_rep pins s σ w.H _ _ v u Q I rx ry ⟨_, _, _, rfl, rfl, h1, by omega, by omega, lim_le (by rw [h2.length]; exact hl.2), fun np hnp => ?_⟩
      have g := Gr.put hw (t := el t) (o := .lst (List.replicate k.toNat vs).flatten) hnp
      have := q _ _ g (new_lst hw (el_ne _) hnp (h2.rep _))
      rw [put_H] at this
      exact this
    · cases ho
  · unfold cif at ho
    split at ho
    · rename_i z0 k hl
      cases ho
      have e1 := rv_str hw ha
      have e2 := rv_int hw hb
      subst e1 e2
      obtain ⟨tx, rfl⟩ := rx
      obtain ⟨ty, rfl⟩ := ry
      have hz : sizeLine = 16777216 := sizeLine_eq
      have l1 : k.natAbs ≤ 1000000 := hl.2.1
      have l2 : z0.length * k.toNat ≤ 1000000 := hl.2.2
      have sz : ∀ (m : Nat), (List.foldl (fun x1 x2 => x1 ++ x2) #[] (List.replicate m z0.cps)) = (List.replicate m z0.cps.toList).flatten.toArray := fun m => by
        have aux : ∀ (l : List (Array Nat)) (acc : Array Nat), l.foldl (fun x1 x2 => x1 ++ x2) acc = acc ++ (l.map Array.toList).flatten.toArray := by
          intro l
          induction l with
          | nil => intro acc; simp
          | cons b r ih => intro acc; rw [List.foldl_cons, ih]; apply Array.toList_inj.mp; simp
        rw [aux]
        simp
      refine PySem.P.mul_str ?_ ?_ ?_ ?_
      · rw [decide_eq_false (by omega), decide_eq_false (by omega)] <;> rfl
      · intro h1 h2 h3
        have hk : (k.toNat : Int) = k := by omega
        have h4 : ((2 ^ 63 - 1) / k : Int) < (z0.length : Int) := h3
        have h5 := (Int.ediv_lt_iff_lt_mul (by omega : (0 : Int) < k)).mp h4
        rw [← hk] at h5
        have h6 : ((z0.length : Int) * (k.toNat : Int)) = ((z0.length * k.toNat : Nat) : Int) := by rw [Int.natCast_mul]
        rw [h6] at h5
        omega
      · intro h1 h2
        show decide (sizeLine < z0.length * k.toNat) = false
        exact decide_eq_false (by omega)
      · by_cases hk : k < 1
        · rw [if_pos hk]
          have e0 : k.toNat = 0 := by omega
          refine ⟨by decide, .str (repS z0 k.toNat), H, I.tok _, ⟨s.toks, ?_⟩, fin1 hw eH rfl q⟩
          rw [e0]
          rfl
        · rw [if_neg hk]
          by_cases hc : (k == 1 || z0.length == 0) = true
          · rw [if_pos hc]
            refine ⟨.str (repS z0 k.toNat), H, I, ⟨tx, ?_⟩, fin1 hw eH rfl q⟩
            have : repS z0 k.toNat = z0 := by
              simp only [Bool.or_eq_true, beq_iff_eq] at hc
              rcases hc with hc | hc
              · subst hc
                simp [repS]
              · have e0 : z0.cps = #[] := Array.eq_empty_of_size_eq_zero hc
                obtain ⟨c0⟩ := z0
                simp only at e0
                subst e0
                unfold repS
                have : (List.replicate k.toNat ([] : List Nat)).flatten = [] := by simp
                simp [this]
            rw [this]
          · rw [if_neg hc]
            refine ⟨?_, .str (repS z0 k.toNat), H, I.tok _, ⟨s.toks, ?_⟩, fin1 hw eH rfl q⟩
            · rw [sz]
              show ((List.replicate k.toNat z0.cps.toList).flatten.toArray).size ≤ sizeLine
              have : ((List.replicate k.toNat z0.cps.toList).flatten.toArray).size = k.toNat * z0.length := by
                simp [Str.length]
              rw [this, Nat.mul_comm]
              omega
            · rw [sz]
              rfl
    · cases ho
  · cases ho
theorem or_fd : OpR X (binaryOp .FloorDiv) (rO (zx X cl) oFd) := by
  rintro pins s σ H x y v u Q I rx ry ⟨w, ⟨t, d⟩, ⟨t', d'⟩, z, eH, hw, ha, hb, ho, q⟩
  unfold oFd at ho
  dsimp only at ho
  split at ho
  · unfold cif at ho
    split at ho
    · rename_i i j hl
      cases ho
      exact op_fdivW pins s σ H x y v u Q I rx ry ⟨_, _, rv_int hw ha, rv_int hw hb, wide_div (b := 64) hl.1 (by omega) (by decide) (by decide), fin1 hw eH rfl q⟩
    · cases ho
  · cases ho
theorem or_mod : OpR X (binaryOp .Mod) (rO (zx X cl) oMod) := by
  rintro pins s σ H x y v u Q I rx ry ⟨w, ⟨t, d⟩, ⟨t', d'⟩, z, eH, hw, ha, hb, ho, q⟩
  unfold oMod at ho
  dsimp only at ho
  split at ho
  · unfold cif at ho
    split at ho
    · rename_i i j hl
      cases ho
      exact op_mod pins s σ H x y v u Q I rx ry ⟨_, _, rv_int hw ha, rv_int hw hb, hl, fin1 hw eH rfl q⟩
    · cases ho
  · cases ho
theorem or_pow : OpR X (binaryOp .Pow) (rO (zx X cl) oPow) := by
  rintro pins s σ H x y v u Q I rx ry ⟨w, ⟨t, d⟩, ⟨t', d'⟩, z, eH, hw, ha, hb, ho, q⟩
  unfold oPow at ho
  dsimp only at ho
  split at ho
  · unfold cif at ho
    split at ho
    · rename_i i j hl
      cases ho
      exact op_pow pins s σ H x y v u Q I rx ry ⟨_, _, rv_int hw ha, rv_int hw hb, hl, fin1 hw eH rfl q⟩
    · cases ho
  · cases ho
theorem or_lt : OpR X (compareOp .Lt) (rO (zx X cl) oLt) := by
  rintro pins s σ H x y v u Q I rx ry ⟨w, ⟨t, d⟩, ⟨t', d'⟩, z, eH, hw, ha, hb, ho, q⟩
  unfold oLt at ho
  dsimp only at ho
  split at ho
  · cases ho
    rw [cdec_eq] at q
    exact op_lt pins s σ H x y v u Q I rx ry ⟨_, _, rv_int hw ha, rv_int hw hb, fin1 hw eH rfl q⟩
  · cases ho
theorem or_le : OpR X (compareOp .LtE) (rO (zx X cl) oLe) := by
  rintro pins s σ H x y v u Q I rx ry ⟨w, ⟨t, d⟩, ⟨t', d'⟩, z, eH, hw, ha, hb, ho, q⟩
  unfold oLe at ho
  dsimp only at ho
  split at ho
  · cases ho
    rw [cdec_eq] at q
    exact op_le pins s σ H x y v u Q I rx ry ⟨_, _, rv_int hw ha, rv_int hw hb, fin1 hw eH rfl q⟩
  · cases ho
theorem or_gt : OpR X (compareOp .Gt) (rO (zx X cl) oGt) := by
  rintro pins s σ H x y v u Q I rx ry ⟨w, ⟨t, d⟩, ⟨t', d'⟩, z, eH, hw, ha, hb, ho, q⟩
  unfold oGt at ho
  dsimp only at ho
  split at ho
  · cases ho
    rw [cdec_eq] at q
    exact op_gt pins s σ H x y v u Q I rx ry ⟨_, _, rv_int hw ha, rv_int hw hb, fin1 hw eH rfl q⟩
  · cases ho
theorem or_ge : OpR X (compareOp .GtE) (rO (zx X cl) oGe) := by
  rintro pins s σ H x y v u Q I rx ry ⟨w, ⟨t, d⟩, ⟨t', d'⟩, z, eH, hw, ha, hb, ho, q⟩
  unfold oGe at ho
  dsimp only at ho
  split at ho
  · cases ho
    rw [cdec_eq] at q
    exact op_ge pins s σ H x y v u Q I rx ry ⟨_, _, rv_int hw ha, rv_int hw hb, fin1 hw eH rfl q⟩
  · cases ho
mutual
theorem dp_of {Z : Zc} {H : Hp} : ∀ {v : V} {d : D}, Rp Z H v d → pyOk d = true → Dp Z.K H v (py d)
  | _, _, .non, _ => .non
  | _, _, .bl b, _ => .bl b
  | _, _, .int i, _ => .int i
  | _, _, .str s, _ => .str s
  | _, _, .lst h r, e => .lst (SqL.of h) (dpAll_of r (by simpa only [pyOk] using e))
  | _, _, .scr h r, e => .lst h (dpAll_of r (by simpa only [pyOk] using e))
  | _, _, .tup h r, e => .tup h (dpAll_of r (by simpa only [pyOk] using e))
  | _, _, .ins _ _ _ _, e => by simp only [pyOk] at e; cases e
  | _, _, .dic _ _ _, e => by simp only [pyOk] at e; cases e
theorem dpAll_of {Z : Zc} {H : Hp} : ∀ {vs : List V} {ds : List D}, RpL Z H vs ds → pyOkL ds = true → DpAll Z.K H vs (pyL ds)
  | _, _, .nil, _ => .nil
  | _, _, .cons h r, e => by
    simp only [pyOkL, Bool.and_eq_true] at e
    exact .cons (dp_of h e.1) (dpAll_of r e.2)
end
/-- what == asks, both ways -/
theorem eqD_cases {K : PySem.W.Frag} {w : Wd} {a b : TD} {x y : V} {k : Bool} {cl : Str → Option Addr} (hw : Wf w) (ha : RV ⟨K, cl⟩ w a x) (hb : RV ⟨K, cl⟩ w b y) (h : eqD a.2 b.2 = some k) :
    (scal x y = true ∧ decide (x = y) = k) ∨ ∃ d e, Dp K w.H x d ∧ Dp K w.H y e ∧ SeqAt.shaped d = true ∧ SeqAt.shaped e = true ∧ PyData.eqv d e = k := by
  obtain ⟨t, d⟩ := a
  obtain ⟨t', d'⟩ := b
  unfold eqD at h
  dsimp only at h
  split at h
  · cases h; rw [rv_int hw ha, rv_int hw hb]; exact .inl ⟨rfl, by simp only [V.int.injEq]⟩
  · cases h; rw [rv_str hw ha, rv_str hw hb]; exact .inl ⟨rfl, by simp only [V.str.injEq]⟩
  · cases h; rw [rv_bl hw ha, rv_bl hw hb]; exact .inl ⟨rfl, by simp only [V.bl.injEq]⟩
  · cases h; rw [rv_non hw ha, rv_non hw hb]; exact .inl ⟨rfl, by simp⟩
  · cases h; rw [rv_int hw ha, rv_non hw hb]; exact .inl ⟨rfl, by simp⟩
  · cases h; rw [rv_non hw ha, rv_int hw hb]; exact .inl ⟨rfl, by simp⟩
  · cases h; rw [rv_str hw ha, rv_non hw hb]; exact .inl ⟨rfl, by simp⟩
  · cases h; rw [rv_non hw ha, rv_str hw hb]; exact .inl ⟨rfl, by simp⟩
  · cases h; rw [rv_int hw ha, rv_str hw hb]; exact .inl ⟨rfl, by simp⟩
  · cases h; rw [rv_str hw ha, rv_int hw hb]; exact .inl ⟨rfl, by simp⟩
  · split at h
    · rename_i hc
      cases h
      simp only [Bool.and_eq_true] at hc
      exact .inr ⟨_, _, dp_of (ha.top hw) hc.1.1.1, dp_of (hb.top hw) hc.1.1.2, hc.1.2, hc.2, rfl⟩
    · cases h
theorem or_eq (hX : XS X) : OpR X (compareOp .Eq) (rO (zx X cl) oEq) := by
  rintro pins s σ H x y v u Q I rx ry ⟨w, a, b, z, eH, hw, ha, hb, ho, q⟩
  obtain ⟨k, hk, rfl⟩ := Option.map_eq_some_iff.mp ho
  have hu := hX.hu
  rcases eqD_cases hw ha hb hk with ⟨h1, h2⟩ | ⟨d, e, h1, h2, h3, h4, h5⟩
  · exact op_eq pins s σ H x y v u Q I rx ry ⟨h1, by rw [h2]; exact fin1 hw eH (d := .bl k) rfl q⟩
  · subst eH
    exact op_eqD (by omega) pins s σ _ x y v u Q I rx ry ⟨d, e, h1, h2, h3, h4, by rw [h5]; exact fin1 hw rfl (d := .bl k) rfl q⟩
theorem or_ne (hX : XS X) : OpR X (compareOp .NotEq) (rO (zx X cl) oNe) := by
  rintro pins s σ H x y v u Q I rx ry ⟨w, a, b, z, eH, hw, ha, hb, ho, q⟩
  obtain ⟨k, hk, rfl⟩ := Option.map_eq_some_iff.mp ho
  have hu := hX.hu
  rcases eqD_cases hw ha hb hk with ⟨h1, h2⟩ | ⟨d, e, h1, h2, h3, h4, h5⟩
  · exact op_ne pins s σ H x y v u Q I rx ry ⟨h1, by rw [h2]; exact fin1 hw eH (d := .bl (!k)) rfl q⟩
  · subst eH
    exact op_neD (by omega) pins s σ _ x y v u Q I rx ry ⟨d, e, h1, h2, h3, h4, by rw [h5]; exact fin1 hw rfl (d := .bl (!k)) rfl q⟩
theorem flat_vOf {d : D} (h : isS d = true) : flatV (vOf d) = true := by cases d <;> first | rfl | exact absurd h (by simp [isS])
theorem inV_any {Z : Zc} {H : Hp} {vs : List V} {ds : List D} {a : D} (r : RpL Z H vs ds) (h : ds.all isS = true) : inV (vOf a) vs = ds.any fun y => eqS y a := by
  rw [rpL_vals r h]
  unfold inV eqS
  rw [List.any_map] <;> rfl
theorem flat_all {Z : Zc} {H : Hp} {vs : List V} {ds : List D} (r : RpL Z H vs ds) (h : ds.all isS = true) : vs.all flatV = true := by
  rw [rpL_vals r h, List.all_map, List.all_eq_true]
  intro d hd
  exact flat_vOf (List.all_eq_true.mp h d hd)
theorem rv_dic {Z : Zc} {w : Wd} (hw : Wf w) {t : Tg} {ks : List Key} {ds : List D} {v : V} (h : RV Z w (t, .dic ks ds) v) : ∃ a vs, v = .ref a ∧ Rd w.H a (.dK (ks.zip vs)) ∧ vs.length = ks.length ∧ RpL Z (w.rd (el t)) vs ds := by
  cases t with
  | O => obtain ⟨p, vs, ds, e, e2, _⟩ := h; cases e2
  | N => cases h with | dic h l r => exact ⟨_, _, rfl, rd_mono hw.nh h, l, r⟩
  | B => cases h with | dic h l r => exact ⟨_, _, rfl, rd_mono hw.bh h, l, r⟩
  | T => cases h with | dic h l r => exact ⟨_, _, rfl, h, l, r⟩
/-- in, of a dict -/
theorem inD_dic {K : PySem.W.Frag} {w : Wd} {a b : TD} {x y : V} {k : Bool} {cl : Str → Option Addr} (hw : Wf w) (ha : RV ⟨K, cl⟩ w a x) (hb : RV ⟨K, cl⟩ w b y) {ks : List Key} {ds : List D} (e : b.2 = .dic ks ds) (h : inD a.2 b.2 = some k) :
    ∃ p o, y = .ref p ∧ DGet w.H p x o ∧ o.isSome = k := by
  obtain ⟨t, d⟩ := a
  obtain ⟨t', d'⟩ := b
  have e : d' = .dic ks ds := e
  subst e
  obtain ⟨p, vs, rfl, h1, h2, h3⟩ := rv_dic hw hb
  obtain ⟨q, hq, rfl⟩ := Option.map_eq_some_iff.mp (show (keyD d).map (fun q => hasK ks q) = some k from h)
  obtain ⟨s1, s2⟩ := keyD_v hq
  have hx := rv_s hw s1 ha
  subst hx
  refine ⟨p, _, rfl, .inl ⟨_, q, h1, s2, rfl⟩, ?_⟩
  rw [dgt_val, dgt_some h2]
theorem inD_seq {K : PySem.W.Frag} {w : Wd} {a b : TD} {x y : V} {k : Bool} {cl : Str → Option Addr} (hw : Wf w) (ha : RV ⟨K, cl⟩ w a x) (hb : RV ⟨K, cl⟩ w b y) (hd : ∀ ks ds, b.2 ≠ .dic ks ds) (h : inD a.2 b.2 = some k) :
    (∃ p xs, y = .ref p ∧ (SqL K w.H p xs ∨ SqT K w.H p xs) ∧ flatV x = true ∧ xs.all flatV = true ∧ inV x xs = k) ∨ ∃ (c : Nat) (z : Str), x = .str ⟨#[c]⟩ ∧ y = .str z ∧ decide (c ∈ z.cps.toList) = k := by
  obtain ⟨t, d⟩ := a
  obtain ⟨t', d'⟩ := b
  unfold inD at h
  dsimp only at h
  split at h
  · split at h
    · rename_i xs hc
      cases h
      simp only [Bool.and_eq_true] at hc
      obtain ⟨p, vs, rfl, h1, h2⟩ := hb.lst hw
      rw [rv_s hw hc.1 ha]
      exact .inl ⟨p, vs, rfl, .inl (SqL.of h1), flat_vOf hc.1, flat_all h2 hc.2, inV_any h2 hc.2⟩
    · cases h
  · split at h
    · rename_i xs hc
      cases h
      simp only [Bool.and_eq_true] at hc
      obtain ⟨p, vs, rfl, h1, h2⟩ := hb.scr hw
      rw [rv_s hw hc.1 ha]
      exact .inl ⟨p, vs, rfl, .inl h1, flat_vOf hc.1, flat_all h2 hc.2, inV_any h2 hc.2⟩
    · cases h
  · split at h
    · rename_i xs hc
      cases h
      simp only [Bool.and_eq_true] at hc
      obtain ⟨p, vs, rfl, h1, h2⟩ := hb.tup hw
      rw [rv_s hw hc.1 ha]
      exact .inl ⟨p, vs, rfl, .inr h1, flat_vOf hc.1, flat_all h2 hc.2, inV_any h2 hc.2⟩
    · cases h
  · split at h
    · split at h
      · rename_i z _ s0 hl
        cases h
        rw [rv_str hw ha, rv_str hw hb]
        refine .inr ⟨s0.cps.getD 0 0, z, ?_, rfl, rfl⟩
        obtain ⟨arr⟩ := s0
        have hs : arr.size = 1 := hl
        obtain ⟨l⟩ := arr
        match l, hs with
        | [c], _ => rfl
      · cases h
    · cases h
  · exact absurd rfl (hd _ _)
  · cases h
theorem or_in (hX : XS X) : OpR X (compareOp .In) (rO (zx X cl) oIn) := by
  rintro pins s σ H x y v u Q I rx ry ⟨w, a, b, z, eH, hw, ha, hb, ho, q⟩
  obtain ⟨k, hk, rfl⟩ := Option.map_eq_some_iff.mp ho
  subst eH
  by_cases hd : ∃ ks ds, b.2 = .dic ks ds
  · obtain ⟨ks, ds, e⟩ := hd
    obtain ⟨p, o, rfl, h1, h2⟩ := inD_dic hw ha hb e hk
    obtain rfl : u = Value.ref p := ry
    exact d_in (by have := hX.hu; omega) I h1 rx fun s1 I1 => ⟨.bl (o.isSome), w.H, I1, rfl, by rw [h2]; exact fin1 hw rfl (d := .bl k) rfl q⟩
  rcases inD_seq hw ha hb (fun ks ds e => hd ⟨ks, ds, e⟩) hk with ⟨p, xs, e1, h2, h3, h4, h5⟩ | ⟨c, z, e1, e2, h5⟩
  · exact op_in_seq pins s σ _ x y v u Q I rx ry ⟨p, xs, e1, h2, h3, h4, by rw [h5]; exact fin1 hw rfl (d := .bl k) rfl q⟩
  · exact op_in_sign pins s σ _ x y v u Q I rx ry ⟨c, z, e1, e2, by rw [h5]; exact fin1 hw rfl (d := .bl k) rfl q⟩
theorem isD_cases {w : Wd} {a b : TD} {x y : V} {k : Bool} {Z : Zc} (hw : Wf w) (ha : RV Z w a x) (hb : RV Z w b y) (h : isD a.2 b.2 = some k) :
    (y = .non ∧ decide (x = .non) = k) ∨ ∃ p q : Bool, x = .bl p ∧ y = .bl q ∧ decide (p = q) = k := by
  obtain ⟨t, d⟩ := a
  obtain ⟨t', d'⟩ := b
  unfold isD at h
  dsimp only at h
  split at h
  · left
    refine ⟨rv_non hw hb, ?_⟩
    split at h
    · cases h; rw [rv_non hw ha]; rfl
    · rename_i hd
      cases h
      refine decide_eq_false fun e => ?_
      subst e
      have := ha.top hw
      cases this
      exact hd rfl
  · split at h
    · cases h; exact .inr ⟨_, _, rv_bl hw ha, rv_bl hw hb, rfl⟩
    · cases h
  · cases h
theorem or_is : OpR X (compareOp .Is) (rO (zx X cl) oIs) := by
  rintro pins s σ H x y v u Q I rx ry ⟨w, a, b, z, eH, hw, ha, hb, ho, q⟩
  obtain ⟨k, hk, rfl⟩ := Option.map_eq_some_iff.mp ho
  rcases isD_cases hw ha hb hk with ⟨e, h⟩ | ⟨p, r, e1, e2, h⟩
  · exact op_isN pins s σ H x y v u Q I rx ry ⟨e, by rw [h]; exact fin1 hw eH (d := .bl k) rfl q⟩
  · exact op_isBl pins s σ H x y v u Q I rx ry ⟨p, r, e1, e2, by rw [h]; exact fin1 hw eH (d := .bl k) rfl q⟩
theorem or_isN : OpR X (compareOp .IsNot) (rO (zx X cl) oIsN) := by
  rintro pins s σ H x y v u Q I rx ry ⟨w, a, b, z, eH, hw, ha, hb, ho, q⟩
  obtain ⟨k, hk, rfl⟩ := Option.map_eq_some_iff.mp ho
  rcases isD_cases hw ha hb hk with ⟨e, h⟩ | ⟨p, r, e1, e2, h⟩
  · exact op_notN pins s σ H x y v u Q I rx ry ⟨e, by rw [h]; exact fin1 hw eH (d := .bl (!k)) rfl q⟩
  · exact op_notBl pins s σ H x y v u Q I rx ry ⟨p, r, e1, e2, by rw [h]; exact fin1 hw eH (d := .bl (!k)) rfl q⟩
end
end Vf
namespace Vf
open PySem L2
abbrev FL := Ev → Option (Tg × List D)
/-- a new list, not yet handed to anybody -/
def tL (Z : Zc) (f : FL) : TE := fun σ H Q => ∃ env w t ds, w.H = H ∧ Wok Z env σ w ∧ f env = some (t, ds) ∧ t ≠ .O ∧
  ∀ p vs w', Gr w w' → w.H p = none → w'.H p = some (.lst vs) → w'.B p = none → RpL Z (w'.rd t) vs ds → Q (.ref p) w'.H
@[simp] def sL (f : FL) : FE := fun env => (f env).bind fun r => if r.1 = .O then none else some (r.1, .lst r.2)
@[simp] def sLd (g : FA) : FL := fun env => (g env).bind fun rs => if rs.length ≤ lim then some (tagL rs, rs.map (·.2)) else none
@[simp] def sTp (g : FA) : FE := fun env => (g env).bind fun rs => if rs.length ≤ lim then some (tagL rs, .tup (rs.map (·.2))) else none
@[simp] def sLo (o : TD → TD → Option (Tg × List D)) (f g : FE) : FL := fun env => (f env).bind fun x => (g env).bind fun y => o x y
def lstOf (a : TD) : Option (Tg × List D) := match a.2 with
  | .lst xs => some (el a.1, xs)
  | .scr xs => some (el a.1, xs)
  | .tup xs => some (el a.1, xs)
  | _ => none
@[simp] def sLb (o : List TD → Option (Tg × List D)) (g : FA) : FL := fun env => (g env).bind o
def listB (rs : List TD) : Option (Tg × List D) := match rs with | [a] => lstOf a | _ => none
def cutD (xs : List D) (lo hi : Option Int) : List D := (xs.drop (HT.sIx xs.length 0 lo)).take (HT.sIx xs.length xs.length hi - HT.sIx xs.length 0 lo)
abbrev FO := Ev → Option (Option Int)
@[simp] def sNoP : FO := fun _ => some none
def sPt (f : FE) : FO := fun env => (f env).bind fun r => match r.2 with | .int i => some (some i) | _ => none
def slD (x : TD) (lo hi : Option Int) : Option TD := match x.2 with
  | .lst xs => some (el x.1, .lst (cutD xs lo hi))
  | .scr xs => some (el x.1, .lst (cutD xs lo hi))
  | .str z => if z.length ≤ lim then some (.N, .str (cutS z lo hi)) else none
  | .tup xs => some (el x.1, .tup (cutD xs lo hi))
  | _ => none
@[simp] def sSl (f : FE) (l h : FO) : FE := fun env => (f env).bind fun x => (l env).bind fun lo => (h env).bind fun hi => slD x lo hi
section
variable {Z : Zc} {w : Wd} {H : Hp}
/-- a list that is laid now, as a new list -/
theorem laid_new {Q : VK} {t : Tg} {ds : List D} {vs : List V} (hw : Wf w) (q : ∀ p vs w', Gr w w' → w.H p = none → w'.H p = some (.lst vs) → w'.B p = none → RpL Z (w'.rd t) vs ds → Q (.ref p) w'.H) (r : RpL Z (w.rd t) vs ds)
    (p : Addr) (hp : w.H p = none) : Q (.ref p) (upd w.H p (.lst vs)) := by
  have g := Gr.put hw (t := .T) (o := .lst vs) hp
  exact q p vs (w.put .T p (.lst vs)) g hp upd_same (hw.bh.free hp) (RpL.mono (rd_gr g t) r)
theorem cutD_all {xs : List D} {lo hi : Option Int} (h : HT.sIx xs.length 0 lo = 0 ∧ HT.sIx xs.length xs.length hi = xs.length) : cutD xs lo hi = xs := by
  unfold cutD
  rw [h.1, h.2]
  simp
theorem cutV_rp {vs : List V} {ds : List D} (r : RpL Z H vs ds) (lo hi : Option Int) : RpL Z H (cutV vs lo hi) (cutD ds lo hi) := by
  unfold cutV cutD
  rw [r.length]
  exact (r.drop _).take _
end
section
variable {X : Cx} {cl : Str → Option Addr} {a b c : Expr} {es : List Expr} {f g h : FE} {fa : FA} {fl : FL} {l1 l2 : FO} {lo hi : Option Expr} {pos : Pos}
theorem je_l (ha : PE X a (tL (zx X cl) fl)) : PE X a (tE (zx X cl) (sL fl)) := by
  refine pe_w ha fun σ H Q ⟨env, w, r, e, k, hr, q⟩ => ?_
  obtain ⟨⟨t, ds⟩, h1, h2⟩ := Option.bind_eq_some_iff.mp hr
  dsimp only at h2
  split at h2
  · cases h2
  · rename_i ht
    cases h2
    refine ⟨env, w, t, ds, e, k, h1, ht, fun p vs w' g1 hp hH hB r => ?_⟩
    obtain ⟨w2, g2, e2, r2⟩ := adopt g1 ht hp hH hB r
    rw [← e2]
    exact q _ w2 g2 r2
theorem jl_d (h : PA X es (tA (zx X cl) fa)) : PE X (.List es pos) (tL (zx X cl) (sLd fa)) := by
  refine pe_w (pe_lst h) fun σ H Q ⟨env, w, t, ds, e, k, hr, ht, q⟩ => ?_
  subst e
  obtain ⟨rs, h1, h2⟩ := Option.bind_eq_some_iff.mp hr
  split at h2
  · rename_i hl
    cases h2
    refine ⟨env, w, rs, rfl, k, h1, fun vs w1 g1 r1 => ⟨lim_le (by rw [r1.length]; exact hl), fun p hp => ?_⟩⟩
    exact laid_new g1.wf (fun p vs w' g2 hp' => q p vs w' (g1.trans g2) (g1.h.free hp')) (rvs_items g1.wf r1) p hp
  · cases h2
theorem je_tup {x1 : Nat} (h : PA X es (tA (zx X cl) fa)) : PE X (.Tuple es x1 pos) (tE (zx X cl) (sTp fa)) := by
  refine pe_w (pe_tup h) fun σ H Q ⟨env, w, r, e, k, hr, q⟩ => ?_
  subst e
  obtain ⟨rs, h1, h2⟩ := Option.bind_eq_some_iff.mp hr
  split at h2
  · rename_i hl
    cases h2
    refine ⟨env, w, rs, rfl, k, h1, fun vs w1 g1 r1 => ⟨lim_le (by rw [r1.length]; exact hl), fun p hp => ?_⟩⟩
    have := q _ _ (g1.trans (Gr.put g1.wf hp)) (new_tup g1.wf (tagL_ne rs) hp (rvs_items g1.wf r1))
    rw [put_H] at this
    exact this
  · cases h2
/-- list(x) -/
def rCL (Z : Zc) (o : List TD → Option (Tg × List D)) : List V → Hp → VK → Prop := fun xs H Q => ∃ w rs t ds, w.H = H ∧ Wf w ∧ RVs Z w rs xs ∧ o rs = some (t, ds) ∧ t ≠ .O ∧
  ∀ p vs w', Gr w w' → w.H p = none → w'.H p = some (.lst vs) → w'.B p = none → RpL Z (w'.rd t) vs ds → Q (.ref p) w'.H
theorem lst_of {Z : Zc} {w : Wd} {a : TD} {v : V} {t : Tg} {ds : List D} (hw : Wf w) (h : RV Z w a v) (e : lstOf a = some (t, ds)) : ∃ p vs, v = .ref p ∧ (SqL Z.K w.H p vs ∨ SqT Z.K w.H p vs) ∧ RpL Z (w.rd t) vs ds := by
  obtain ⟨u, d⟩ := a
  unfold lstOf at e
  dsimp only at e
  split at e
  · cases e
    obtain ⟨p, vs, rfl, h1, h2⟩ := h.lst hw
    exact ⟨p, vs, rfl, .inl (SqL.of h1), h2⟩
  · cases e
    obtain ⟨p, vs, rfl, h1, h2⟩ := h.scr hw
    exact ⟨p, vs, rfl, .inl h1, h2⟩
  · cases e
    obtain ⟨p, vs, rfl, h1, h2⟩ := h.tup hw
    exact ⟨p, vs, rfl, .inr h1, h2⟩
  · cases e
theorem rvs1 {Z : Zc} {w : Wd} {a : TD} {xs : List V} (h : RVs Z w [a] xs) : ∃ v, xs = [v] ∧ RV Z w a v := by
  match xs, h with
  | [v], h => exact ⟨v, rfl, h.1⟩
theorem crl_list : CallR X (.type "list") (rCL (zx X cl) listB) := by
  rintro pins s σ H xs us Q I r ⟨w, rs, t, ds, eH, hw, hr, ho, ht, q⟩
  unfold listB at ho
  split at ho
  · obtain ⟨v, rfl, hv⟩ := rvs1 hr
    obtain ⟨p, vs, rfl, h1, h2⟩ := lst_of hw hv ho
    subst eH
    exact call_list_of pins s σ w.H _ us Q I r ⟨p, vs, rfl, h1, fun np hnp => laid_new hw q h2 np hnp⟩
  · cases ho
theorem jl_ty {T : String} {x : Str} {p : Pos} {o : List TD → Option (Tg × List D)} (hc : CallR X (.type T) (rCL (zx X cl) o)) (hm : X.mg x = none) (hv : bootBuiltins x = some (.type T)) (ha : PA X (a :: es) (tA (zx X cl) fa)) (hg : Gl X x := by rfl)
    (hn : x ≠ "__name__" := by decide) (hdb : (x == ("__debug__" : Str)) = false := by decide) (he : starEach (a :: es) X.env = (false, eval a X.env) :: starEach es X.env := by rfl) (hpl : (backTo pos (starEach es X.env)).any (·.1) = false := by rfl) :
    PE X (.Call (.Name x p) (a :: es) [] pos) (tL (zx X cl) (sLb o fa)) := by
  refine pe_w (pe_callTy hc hg hm hv ha hn hdb he hpl) fun σ H Q ⟨env, w, t, ds, e, k, hr, ht, q⟩ => ?_
  subst e
  obtain ⟨rs, h1, h2⟩ := Option.bind_eq_some_iff.mp hr
  exact ⟨env, w, rs, rfl, k, h1, fun vs w1 g1 r1 => ⟨w1, rs, t, ds, rfl, g1.wf, r1, h2, ht, fun p vs w' g2 hp' => q p vs w' (g1.trans g2) (g1.h.free hp')⟩⟩
/-! subscripts -/
theorem atI_rp {Z : Zc} {H : Hp} {vs : List V} {ds : List D} {i : Int} {d : D} (r : RpL Z H vs ds) (h : atI ds i = some d) : ∃ v, atI vs i = some v ∧ Rp Z H v d := by
  unfold atI at h ⊢
  rw [r.length]
  obtain ⟨j, h1, h2⟩ := Option.bind_eq_some_iff.mp h
  obtain ⟨v, h3, h4⟩ := r.get h2
  exact ⟨v, by rw [h1]; exact h3, h4⟩
theorem ix_dict (hX : XS X) : IxR X (fun x y H Q => ∃ a v, x = .ref a ∧ DGet H a y (some v) ∧ Q v H) := by
  rintro value slice pins s σ H x y v u Q I rx ry ⟨a, r, rfl, g, q⟩ hs
  obtain rfl : v = Value.ref a := rx
  exact PyProof.Rows.tail_any (dict_typeIs I g) PySem.F.slot_dict_getitem.lookup (d_getItem (by have := hX.hu; omega) I g ry fun w' s3 I3 rw' => ⟨r, H, I3, rw', q⟩) hs
theorem ix_dd (hX : XS X) {w : Wd} {t t' : Tg} {d' : D} {ks : List Key} {ds : List D} {k : Key} {d0 : D} {x y : V} (hw : Wf w) (ha : RV (zx X cl) w (t, .dic ks ds) x) (hb : RV (zx X cl) w (t', d') y) (h1 : keyD d' = some k) (h3 : dgt ks ds k = some d0) :
    ∃ a v, x = .ref a ∧ DGet w.H a y (some v) ∧ RV (zx X cl) w (nm (el t, d0)) v := by
  obtain ⟨p, vs, rfl, h4, h5, h6⟩ := rv_dic hw ha
  obtain ⟨s1, s2⟩ := keyD_v h1
  obtain rfl := rv_s hw s1 hb
  obtain ⟨v0, h7, h8⟩ := dgt_rp h6 h3
  exact ⟨p, v0, rfl, .inl ⟨_, k, h4, s2, by rw [dgt_val, h7]⟩, RV.nm hw (RV.of (el_ne t) h8)⟩
theorem ix_d (hX : XS X) : IxR X (rO (zx X cl) oIx) := by
  rintro value slice pins s σ H x y v u Q I rx ry ⟨w, ⟨t, d⟩, ⟨t', d'⟩, z, eH, hw, ha, hb, ho, q⟩ hs
  unfold oIx at ho
  dsimp only at ho
  split at ho
  · rename_i i
    have ei := rv_int hw hb
    unfold ixD at ho
    dsimp only at ho
    subst eH
    split at ho
    · obtain ⟨d0, h1, rfl⟩ := Option.map_eq_some_iff.mp ho
      obtain ⟨p, vs, rfl, h3, h4⟩ := ha.lst hw
      obtain ⟨v0, h5, h6⟩ := atI_rp h4 h1
      exact ix_list value slice pins s σ _ _ _ v u Q I rx ry ⟨p, vs, i, v0, rfl, ei, SqL.of h3, h5, q v0 w (Gr.refl hw) (RV.nm hw (RV.of (el_ne t) h6))⟩ hs
    · obtain ⟨d0, h1, rfl⟩ := Option.map_eq_some_iff.mp ho
      obtain ⟨p, vs, rfl, h3, h4⟩ := ha.scr hw
      obtain ⟨v0, h5, h6⟩ := atI_rp h4 h1
      exact ix_list value slice pins s σ _ _ _ v u Q I rx ry ⟨p, vs, i, v0, rfl, ei, h3, h5, q v0 w (Gr.refl hw) (RV.nm hw (RV.of (el_ne t) h6))⟩ hs
    · obtain ⟨d0, h1, rfl⟩ := Option.map_eq_some_iff.mp ho
      obtain ⟨p, vs, rfl, h3, h4⟩ := ha.tup hw
      obtain ⟨v0, h5, h6⟩ := atI_rp h4 h1
      exact ix_tup value slice pins s σ _ _ _ v u Q I rx ry ⟨p, vs, i, v0, rfl, ei, h3, h5, q v0 w (Gr.refl hw) (RV.nm hw (RV.of (el_ne t) h6))⟩ hs
    · split at ho
      · rename_i hl
        obtain ⟨c, h1, rfl⟩ := Option.map_eq_some_iff.mp ho
        exact ix_str value slice pins s σ _ _ _ v u Q I rx ry ⟨_, i, c, rv_str hw ha, ei, lim_le hl, h1, fin1 hw rfl (d := .str ⟨#[c]⟩) rfl q⟩ hs
      · cases ho
    · obtain ⟨d0, h1, rfl⟩ := Option.map_eq_some_iff.mp ho
      obtain ⟨p, v0, rfl, g, rv⟩ := ix_dd hX hw ha hb rfl h1
      exact ix_dict hX value slice pins s σ _ _ _ v u Q I rx ry ⟨p, v0, rfl, g, q v0 w (Gr.refl hw) rv⟩ hs
    · cases ho
  · unfold ixS at ho
    dsimp only at ho
    subst eH
    split at ho
    · obtain ⟨d0, h1, rfl⟩ := Option.map_eq_some_iff.mp ho
      obtain ⟨p, v0, rfl, g, rv⟩ := ix_dd hX hw ha hb rfl h1
      exact ix_dict hX value slice pins s σ _ _ _ v u Q I rx ry ⟨p, v0, rfl, g, q v0 w (Gr.refl hw) rv⟩ hs
    · cases ho
  · cases ho
theorem je_ix (hX : XS X) (ha : PE X a (tE (zx X cl) f)) (hb : PE X b (tE (zx X cl) g)) (hs : PlainIx b := by exact fun _ _ => rfl) : PE X (.Subscript a b pos) (tE (zx X cl) (sOp oIx f g)) :=
  pe_w (pe_ix (ix_d hX) ha hb hs) fun _ _ _ hh => sOp_rd hh
/-! slices -/
def tO (Z : Zc) (f : FO) : TO := fun σ H Q => ∃ env w r, w.H = H ∧ Wok Z env σ w ∧ f env = some r ∧ ∀ w', Gr w w' → Q r w'.H
theorem jo_none : PO X none (tO (zx X cl) sNoP) := by
  refine ⟨fun pins s σ H Q I ⟨env, w, r, e, k, hr, q⟩ => po_none.run pins s σ H Q I ?_⟩
  subst e
  cases hr
  exact q w (Gr.refl k.wf)
theorem jo_some (ha : PE X a (tE (zx X cl) f)) : PO X (some a) (tO (zx X cl) (sPt f)) := by
  refine ⟨fun pins s σ H Q I ⟨env, w, r, e, k, hr, q⟩ => (po_some ha).run pins s σ H Q I ?_⟩
  subst e
  obtain ⟨⟨t, d⟩, h1, h2⟩ := Option.bind_eq_some_iff.mp hr
  dsimp only at h2
  split at h2
  · cases h2
    exact ⟨env, w, _, rfl, k, h1, fun v w1 g1 r1 => ⟨_, rv_int g1.wf r1, q w1 g1⟩⟩
  · cases h2
def rSD (Z : Zc) : V → Option Int → Option Int → Hp → VK → Prop := fun x lo hi H Q => ∃ w rx z, w.H = H ∧ Wf w ∧ RV Z w rx x ∧ slD rx lo hi = some z ∧ ∀ v w', Gr w w' → RV Z w' z v → Q v w'.H
theorem sl_d : SlR X (rSD (zx X cl)) := by
  rintro pins s σ H x v vl vu lo hi sl Q I rx hs pl pu ⟨w, ⟨t, d⟩, z, eH, hw, ha, ho, q⟩
  unfold slD at ho
  dsimp only at ho
  subst eH
  split at ho
  · cases ho
    obtain ⟨p, vs, rfl, h3, h4⟩ := ha.lst hw
    refine sl_list pins s σ _ _ v vl vu lo hi sl Q I rx hs pl pu ⟨p, vs, rfl, SqL.of h3, fun np hnp => ?_⟩
    have := q _ _ (Gr.put hw (t := el t) hnp) (new_lst hw (el_ne t) hnp (cutV_rp h4 lo hi))
    rw [put_H] at this
    exact this
  · cases ho
    obtain ⟨p, vs, rfl, h3, h4⟩ := ha.scr hw
    refine sl_list pins s σ _ _ v vl vu lo hi sl Q I rx hs pl pu ⟨p, vs, rfl, h3, fun np hnp => ?_⟩
    have := q _ _ (Gr.put hw (t := el t) hnp) (new_lst hw (el_ne t) hnp (cutV_rp h4 lo hi))
    rw [put_H] at this
    exact this
  · split at ho
    · rename_i hl
      cases ho
      exact sl_str pins s σ _ _ v vl vu lo hi sl Q I rx hs pl pu ⟨_, rv_str hw ha, lim_le hl, fin1 hw rfl (d := .str (cutS _ lo hi)) rfl q⟩
    · cases ho
  · cases ho
    have ha' := ha
    obtain ⟨p, vs, rfl, h3, h4⟩ := ha.tup hw
    refine sl_tupA pins s σ _ _ v vl vu lo hi sl Q I rx hs pl pu ⟨p, vs, rfl, h3, fun hc => ?_, fun hc np hnp => ?_⟩
    · have e : cutD _ lo hi = _ := cutD_all (by rw [← h4.length]; exact hc)
      rw [e] at q
      refine q _ w (Gr.refl hw) (RV.of (el_ne t) ?_)
      cases t <;> first | exact ha' | (obtain ⟨_, _, _, _, z, _⟩ := ha'; cases z)
    · have := q _ _ (Gr.put hw (t := el t) hnp) (new_tup hw (el_ne t) hnp (cutV_rp h4 lo hi))
      rw [put_H] at this
      exact this
  · cases ho
theorem je_sl {p2 : Pos} (he : PE X a (tE (zx X cl) f)) (hl : PO X lo (tO (zx X cl) l1)) (hu : PO X hi (tO (zx X cl) l2)) : PE X (.Subscript a (.Slice lo hi none p2) pos) (tE (zx X cl) (sSl f l1 l2)) := by
  refine pe_w (pe_slice (sl_d (cl := cl)) he hl hu) fun σ H Q ⟨env, w, r, e, k, hr, q⟩ => ?_
  subst e
  obtain ⟨x, hx, hr⟩ := Option.bind_eq_some_iff.mp hr
  obtain ⟨y, hy, hr⟩ := Option.bind_eq_some_iff.mp hr
  obtain ⟨z, hz, hr⟩ := Option.bind_eq_some_iff.mp hr
  refine ⟨env, w, x, rfl, k, hx, fun v w1 g1 r1 => ⟨env, w1, y, rfl, k.mono g1, hy, fun w2 g2 => ⟨env, w2, z, rfl, (k.mono g1).mono g2, hz, fun w3 g3 => ?_⟩⟩⟩
  exact ⟨w3, x, r, rfl, g3.wf, (r1.mono g2).mono g3, hr, fun v' w4 g4 r4 => q v' w4 (((g1.trans g2).trans g3).trans g4) r4⟩
/-! built-ins -/
def lenB (rs : List TD) : Option TD := match rs with
  | [a] => match a.2 with
    | .str z => if z.length ≤ lim then some (.N, .int z.length) else none
    | .lst xs => some (.N, .int xs.length)
    | .scr xs => some (.N, .int xs.length)
    | .tup xs => some (.N, .int xs.length)
    | .dic ks _ => some (.N, .int ks.length)
    | _ => none
  | _ => none
theorem cr_len : CallR X (.builtin "len") (rC (zx X cl) lenB) := by
  rintro pins s σ H xs us Q I r ⟨w, rs, z, eH, hw, hr, ho, q⟩
  unfold lenB at ho
  split at ho
  · rename_i a
    obtain ⟨t, d⟩ := a
    obtain ⟨v, rfl, hv⟩ := rvs1 hr
    dsimp only at ho
    subst eH
    split at ho
    · split at ho
      · rename_i hl
        cases ho
        refine call_len pins s σ _ _ us Q I r ⟨v, _, rfl, ?_, fin1 hw rfl (d := .int _) rfl q⟩
        rw [rv_str hw hv]
        exact ⟨lim_le hl, rfl⟩
      · cases ho
    · cases ho
      obtain ⟨p, vs, rfl, h3, h4⟩ := hv.lst hw
      refine call_len pins s σ _ _ us Q I r ⟨_, _, rfl, .inl ⟨vs, SqL.of h3, rfl⟩, ?_⟩
      rw [h4.length]
      exact fin1 hw rfl (d := .int _) rfl q
    · cases ho
      obtain ⟨p, vs, rfl, h3, h4⟩ := hv.scr hw
      refine call_len pins s σ _ _ us Q I r ⟨_, _, rfl, .inl ⟨vs, h3, rfl⟩, ?_⟩
      rw [h4.length]
      exact fin1 hw rfl (d := .int _) rfl q
    · cases ho
      obtain ⟨p, vs, rfl, h3, h4⟩ := hv.tup hw
      refine call_len pins s σ _ _ us Q I r ⟨_, _, rfl, .inr ⟨vs, h3, rfl⟩, ?_⟩
      rw [h4.length]
      exact fin1 hw rfl (d := .int _) rfl q
    · cases ho
      obtain ⟨p, vs, rfl, h3, h5, h4⟩ := rv_dic hw hv
      obtain ⟨u, rfl, ru⟩ := vals1 r
      cases ru
      exact d_len I h3 fun t s' I' => ⟨.int (((_ : List Key).zip vs).length : Nat), w.H, I', ⟨t, rfl⟩, by rw [List.length_zip, h5, Nat.min_self]; exact fin1 hw rfl (d := .int _) rfl q⟩
    · cases ho
  · cases ho
def intB (rs : List TD) : Option TD := match rs with
  | [a] => match a.2 with
    | .int i => some (.N, .int i)
    | .bl k => some (.N, .int (if k then 1 else 0))
    | _ => none
  | _ => none
theorem cr_int : CallR X (.type "int") (rC (zx X cl) intB) := by
  rintro pins s σ H xs us Q I r ⟨w, rs, z, eH, hw, hr, ho, q⟩
  unfold intB at ho
  split at ho
  · rename_i a
    obtain ⟨t, d⟩ := a
    obtain ⟨v, rfl, hv⟩ := rvs1 hr
    dsimp only at ho
    subst eH
    split at ho
    · cases ho
      exact call_int1 pins s σ _ _ us Q I r (.inl ⟨_, by rw [rv_int hw hv], fin1 hw rfl (d := .int _) rfl q⟩)
    · cases ho
      exact call_int1 pins s σ _ _ us Q I r (.inr ⟨_, by rw [rv_bl hw hv], fin1 hw rfl (d := .int _) rfl q⟩)
    · cases ho
  · cases ho
def tupB (rs : List TD) : Option TD := match rs with
  | [a] => match a.2 with
    | .lst xs => some (el a.1, .tup xs)
    | .scr xs => some (el a.1, .tup xs)
    | .tup xs => some a
    | _ => none
  | _ => none
theorem cr_tup : CallR X (.type "tuple") (rC (zx X cl) tupB) := by
  rintro pins s σ H xs us Q I r ⟨w, rs, z, eH, hw, hr, ho, q⟩
  unfold tupB at ho
  split at ho
  · rename_i a
    obtain ⟨t, d⟩ := a
    obtain ⟨v, rfl, hv⟩ := rvs1 hr
    dsimp only at ho
    subst eH
    split at ho
    · cases ho
      obtain ⟨p, vs, rfl, h3, h4⟩ := hv.lst hw
      refine call_tuple_of pins s σ _ _ us Q I r ⟨p, vs, rfl, .inl ⟨SqL.of h3, fun np hnp => ?_⟩⟩
      have := q _ _ (Gr.put hw (t := el t) hnp) (new_tup hw (el_ne t) hnp h4)
      rw [put_H] at this
      exact this
    · cases ho
      obtain ⟨p, vs, rfl, h3, h4⟩ := hv.scr hw
      refine call_tuple_of pins s σ _ _ us Q I r ⟨p, vs, rfl, .inl ⟨h3, fun np hnp => ?_⟩⟩
      have := q _ _ (Gr.put hw (t := el t) hnp) (new_tup hw (el_ne t) hnp h4)
      rw [put_H] at this
      exact this
    · cases ho
      have hv2 := hv
      obtain ⟨p, vs, rfl, h3, h4⟩ := hv.tup hw
      exact call_tuple_of pins s σ _ _ us Q I r ⟨p, vs, rfl, .inr ⟨h3, q _ w (Gr.refl hw) hv2⟩⟩
    · cases ho
  · cases ho
/-- isinstance of a built-in class -/
def tyOf : D → String
  | .non => "NoneType" | .bl _ => "bool" | .int _ => "int" | .str _ => "str" | .lst _ => "list" | .scr _ => "list" | .tup _ => "tuple" | .dic _ _ => "dict" | .ins _ _ _ => ""
def isiD (d : D) (T : String) : Option Bool := match d with
  | .ins _ _ _ => none
  | d => kitB (tyOf d) T
@[simp] def sIsi (T : String) (f : FE) : FE := fun env => (f env).bind fun x => (isiD x.2 T).map fun k => (.N, .bl k)
theorem tyX_of {K : PySem.W.Frag} {cl : Str → Option Addr} {H : Hp} {v : V} {d : D} (h : Rp ⟨K, cl⟩ H v d) (hd : ∀ c fs ds, d ≠ .ins c fs ds) : TyX K H v (.type (tyOf d)) := by
  cases h with
  | non => exact .base .non
  | bl b => exact .base (.bl b)
  | int i => exact .base (.int i)
  | str s => exact .base (.str s)
  | lst h r => exact .base (.lst h)
  | scr h r =>
    rcases h with (h | ⟨o, h⟩) | ⟨o, its, n, hk, hc, _⟩
    · exact .base (.lst h)
    · exact .base (.frz h)
    · exact .kList hk hc
  | tup h r =>
    rcases h with (h | ⟨o, h⟩) | ⟨o, its, n, hk, hc, _⟩
    · exact .base (.tup h)
    · exact .fTuple h
    · exact .kTuple hk hc
  | ins h c l r => exact absurd rfl (hd _ _ _)
  | dic h l r =>
    rcases h with h | ⟨o, h⟩
    · exact .base (.dK h)
    · exact .fDict h
theorem je_isi {T : String} {tn : Str} {p q : Pos} (ha : PE X a (tE (zx X cl) f)) (mi : X.mg "isinstance" = none) (mt : X.mg tn = none) (hT : bootBuiltins tn = some (.type T)) (hgi : Gl X "isinstance" := by rfl) (hgt : Gl X tn := by rfl)
    (hn : tn ≠ "__name__" := by decide) (hdb : (tn == ("__debug__" : Str)) = false := by decide) (he : starEach [a, .Name tn q] X.env = (false, eval a X.env) :: starEach [.Name tn q] X.env := by rfl)
    (hpl : (backTo pos (starEach [.Name tn q] X.env)).any (·.1) = false := by rfl) (he2 : starEach [.Name tn q] X.env = (false, eval (.Name tn q) X.env) :: starEach [] X.env := by rfl) :
    PE X (.Call (.Name "isinstance" p) [a, .Name tn q] [] pos) (tE (zx X cl) (sIsi T f)) := by
  refine pe_w (pe_callB call_isi hgi mi PyProof.Rows.boot_isinstance (pa_cons ha (pa_cons (pe_bltn (v := .ty T) hgt mt hT rfl hn hdb) pa_nil he2) he) (by decide) (by decide) he hpl) fun σ H Q ⟨env, w, r, e, k, hr, q⟩ => ?_
  subst e
  obtain ⟨⟨t, d⟩, h1, h2⟩ := Option.bind_eq_some_iff.mp hr
  obtain ⟨b, h3, rfl⟩ := Option.map_eq_some_iff.mp h2
  refine ⟨env, w, _, rfl, k, h1, fun v w1 g1 r1 => ⟨v, .ty T, .type (tyOf d), .type T, b, rfl, .ty T, ?_, ?_, q _ w1 g1 (nN (.bl b) rfl)⟩⟩
  · refine tyX_of (r1.top g1.wf) fun c fs ds e => ?_
    dsimp only at e h3
    rw [e] at h3
    cases h3
  · refine kit_ty ?_
    dsimp only at h3
    unfold isiD at h3
    split at h3
    · cases h3
    · exact h3
end
end Vf
namespace Vf
open PySem L2
/-! ### statements -/
@[simp] def sNx : FS := fun env => some (.nx env)
def thenO (o : Out) (b : FS) : Option Out := match o with | .nx e => b e | o => some o
@[simp] def sSeq (a b : FS) : FS := fun env => (a env).bind fun o => thenO o b
def setV (i : Nat) (r : TD) (env : Ev) : Option Ev := if i < env.s.length then (match r.1 with
  | .N => some (env.put i (.val .N r.2))
  | .B => some (env.put i (.val .B r.2))
  | _ => none) else none
@[simp] def sSet (i : Nat) (f : FE) : FS := fun env => (f env).bind fun r => (setV i r env).map .nx
def sOwn (i : Nat) (f : FL) : FS := fun env => (f env).bind fun r => if i < env.s.length then (match r.1 with
  | .N => some (.nx (env.put i (.own r.2)))
  | _ => none) else none
@[simp] def sRet (f : FE) : FS := fun env => (f env).map .rt
@[simp] def sRetN : FS := fun _ => some (.rt (.N, .non))
@[simp] def sIf (c : FT) (a b : FS) : FS := fun env => (c env).bind fun k => if k then a env else b env
@[simp] def sDrop (f : FE) : FS := fun env => (f env).map fun _ => .nx env
def sFrz (i : Nat) : FS := fun env => match env.s[i]? with
  | some (.own ds) => some (.nx (env.put i (.val .N (.lst ds))))
  | some _ => some (.nx env)
  | none => none
def sApp (i : Nat) (f : FE) : FS := fun env => match env.s[i]? with
  | some (.own ds) => (f env).bind fun r => match r.1 with
    | .N => if ds.length ≤ lim then some (.nx (env.put i (.own (ds ++ [r.2])))) else none
    | _ => none
  | _ => none
def sExt (i : Nat) (f : FE) : FS := fun env => match env.s[i]? with
  | some (.own ds) => (f env).bind fun r => match r.1, r.2 with
    | .N, .lst es => if ds.length + es.length ≤ lim then some (.nx (env.put i (.own (ds ++ es)))) else none
    | _, _ => none
  | _ => none
def sPut (i : Nat) (g f : FE) : FS := fun env => (f env).bind fun r => match env.s[i]? with
  | some (.own ds) => (g env).bind fun k => match r.1, k.2 with
    | .N, .int j => (ixN ds.length j).map fun n => .nx (env.put i (.own (ds.set n r.2)))
    | _, _ => none
  | _ => none
@[simp] def sBrk : FS := fun env => some (.bk env)
@[simp] def sCnt : FS := fun env => some (.ct env)
@[simp] def sNever : FS := fun _ => none
section
variable {Z : Zc} {env : Ev} {σ : L2.St} {w : Wd}
theorem Wok.setV (k : Wok Z env σ w) {i : Nat} (hi : i < env.s.length) {t : Tg} {d : D} {v : V} (h : t = .N ∧ Rp Z w.N v d ∨ t = .B ∧ Rp Z w.B v d) : Wok Z (env.put i (.val t d)) (σ.set i (some v)) w := by
  refine ⟨k.wf, by simpa using k.len, fun j s e => ?_, fun j j' ds es p hne e1 e2 e3 => ?_, k.tb⟩
  · by_cases hj : i = j
    · subst hj
      rw [List.getElem?_set_self hi] at e
      cases e
      exact ⟨some v, List.getElem?_set_self (by rw [k.len]; exact hi), v, rfl, h⟩
    · rw [List.getElem?_set_ne hj] at e
      obtain ⟨o, h1, h2⟩ := k.sl j s e
      exact ⟨o, by rw [List.getElem?_set_ne hj]; exact h1, h2⟩
  · have n1 : i ≠ j := fun q => by
      subst q
      rw [List.getElem?_set_self hi] at e1
      cases e1
    have n2 : i ≠ j' := fun q => by
      subst q
      rw [List.getElem?_set_self hi] at e2
      cases e2
    rw [List.getElem?_set_ne n1] at e1 e3
    rw [List.getElem?_set_ne n2] at e2 ⊢
    exact k.dj j j' ds es p hne e1 e2 e3
theorem setV_ok (k : Wok Z env σ w) {i : Nat} {r : TD} {e : Ev} {v : V} (h : Vf.setV i r env = some e) (hv : RV Z w r v) : Wok Z e (σ.set i (some v)) w := by
  unfold Vf.setV at h
  split at h
  · rename_i hi
    obtain ⟨t, d⟩ := r
    dsimp only at h
    split at h
    · cases h
      exact k.setV hi (.inl ⟨rfl, hv⟩)
    · cases h
      exact k.setV hi (.inr ⟨rfl, hv⟩)
    · cases h
  · cases h
/-- an own list at p changes -/
theorem Wok.mut (k : Wok Z env σ w) {i : Nat} {ds es : List D} {p : Addr} {vs us : List V} (he : env.s[i]? = some (.own ds)) (hs : σ[i]? = some (some (.ref p))) (hp : w.H p = some (.lst vs)) (hb : w.B p = none) (hpm : p ∉ w.m) (r : RpL Z w.N us es) :
    Wok Z (env.put i (.own es)) σ ⟨w.N, w.B, upd w.H p (.lst us), w.m⟩ ∧ Gs w ⟨w.N, w.B, upd w.H p (.lst us), w.m⟩ := by
  have wf : Wf ⟨w.N, w.B, upd w.H p (.lst us), w.m⟩ := ⟨k.wf.nb, same_up1 k.wf.bh hb⟩
  have hi : i < env.s.length := (List.getElem?_eq_some_iff.mp he).1
  refine ⟨⟨wf, by simpa using k.len, fun j s e => ?_, fun j j' ds' es' q hne e1 e2 e3 => ?_, ?_⟩, ⟨wf, .refl _, .refl _, fun x q => .inl q, List.prefix_refl _, fun _ q => .inl q⟩⟩
  · by_cases hj : i = j
    · subst hj
      rw [List.getElem?_set_self hi] at e
      cases e
      exact ⟨_, hs, p, us, rfl, upd_same, hb, hpm, r⟩
    · rw [List.getElem?_set_ne hj] at e
      obtain ⟨o, h1, h2⟩ := k.sl j s e
      refine ⟨o, h1, ?_⟩
      cases s with
      | un => exact trivial
      | val t d => exact h2
      | han n => exact h2
      | own fs =>
        obtain ⟨p', vs', e', h3, h4, h6, h5⟩ := h2
        subst e'
        have : p' ≠ p := fun q => by
          subst q
          exact k.dj i j ds fs p' hj he e hs h1
        exact ⟨p', vs', rfl, by show upd w.H p (.lst us) p' = _; rw [upd_ne this]; exact h3, h4, h6, h5⟩
  · have f : ∀ {n : Nat} {l : List D}, (env.put i (.own es)).s[n]? = some (.own l) → ∃ l', env.s[n]? = some (.own l') := fun {n l} e => by
      by_cases hn : i = n
      · subst hn
        exact ⟨ds, he⟩
      · rw [List.getElem?_set_ne hn] at e
        exact ⟨l, e⟩
    obtain ⟨l1, g1⟩ := f e1
    obtain ⟨l2, g2⟩ := f e2
    exact k.dj j j' l1 l2 q hne g1 g2 e3
  · refine k.tb.away (.refl _) rfl (fun a _ h => h) fun a ha o h => ?_
    show upd w.H p (.lst us) a = _
    rw [upd_ne (fun q => hpm (by rw [← q]; exact ha))]
    exact h
/-- a new own list -/
theorem Wok.own (k : Wok Z env σ w) {i : Nat} (hi : i < env.s.length) {w' : Wd} (g : Gr w w') {ds : List D} {p : Addr} {vs : List V} (hp : w.H p = none) (h : w'.H p = some (.lst vs)) (hb : w'.B p = none) (r : RpL Z w'.N vs ds) :
    Wok Z (env.put i (.own ds)) (σ.set i (some (.ref p))) w' := by
  have k' := k.mono g
  have hpm : p ∉ w'.m := fun q => k.tb.hh p (by rw [← g.m]; exact q) hp
  refine ⟨g.wf, by simpa using k.len, fun j s e => ?_, fun j j' ds' es' q hne e1 e2 e3 => ?_, k'.tb⟩
  · by_cases hj : i = j
    · subst hj
      rw [List.getElem?_set_self hi] at e
      cases e
      exact ⟨_, List.getElem?_set_self (by rw [k.len]; exact hi), p, vs, rfl, h, hb, hpm, r⟩
    · rw [List.getElem?_set_ne hj] at e
      obtain ⟨o, h1, h2⟩ := k'.sl j s e
      exact ⟨o, by rw [List.getElem?_set_ne hj]; exact h1, h2⟩
  · -- an elder own list stands elsewhere
    have old : ∀ {n : Nat} {l : List D}, i ≠ n → (env.put i (.own ds)).s[n]? = some (.own l) → (σ.set i (some (.ref p)))[n]? ≠ some (some (.ref p)) := fun {n l} hn e z => by
      rw [List.getElem?_set_ne hn] at e z
      obtain ⟨o, h1, p', vs', e', h3, _⟩ := k.sl n _ e
      subst e'
      rw [h1] at z
      cases z
      rw [hp] at h3
      cases h3
    by_cases h1 : i = j
    · subst h1
      rw [List.getElem?_set_self (by rw [k.len]; exact hi)] at e3
      cases e3
      exact old hne e2
    · by_cases h2 : i = j'
      · subst h2
        intro z
        rw [List.getElem?_set_self (by rw [k.len]; exact hi)] at z
        cases z
        exact old h1 e1 e3
      · rw [List.getElem?_set_ne h1] at e1 e3
        rw [List.getElem?_set_ne h2] at e2 ⊢
        exact k.dj j j' ds' es' q hne e1 e2 e3
end
section
variable {X : Cx} {cl : Str → Option Addr} {a b c e : Expr} {es : List Expr} {f g h : FE} {fa : FA} {fl : FL} {ct : FT} {A B : FS} {pos : Pos} {st : Stmt} {rest body orelse : List Stmt}
theorem js_nil : PSs X [] (tS (zx X cl) sNx) := by
  refine pss_w pss_nil fun D σ H ⟨env, w, out, e, k, hr, q⟩ => ?_
  subst e
  cases hr
  exact q σ w (Gs.refl k.wf) k
theorem js_cons (h1 : PS X st (tS (zx X cl) A)) (h2 : PSs X rest (tS (zx X cl) B)) : PSs X (st :: rest) (tS (zx X cl) (sSeq A B)) := by
  refine pss_w (pss_cons h1 h2) fun D σ H ⟨env, w, out, e, k, hr, q⟩ => ?_
  subst e
  obtain ⟨o, h3, h4⟩ := Option.bind_eq_some_iff.mp hr
  refine ⟨env, w, o, rfl, k, h3, ?_⟩
  cases o with
  | nx e' => exact fun σ' w' g' k' => ⟨e', w', out, rfl, k', h4, q.mono g'⟩
  | rt r =>
    cases h4
    exact q
  | bk e' =>
    cases h4
    exact q
  | ct e' =>
    cases h4
    exact q
  | rth x T =>
    cases h4
    exact q
/-- the last statement alone -/
theorem js_one (h1 : PS X st (tS (zx X cl) A)) : PSs X [st] (tS (zx X cl) A) := by
  refine pss_w (js_cons h1 js_nil) fun D σ H ⟨env, w, out, e, k, hr, q⟩ => ⟨env, w, out, e, k, ?_, q⟩
  unfold sSeq
  rw [hr]
  cases out <;> rfl
theorem js_set (i : Nat) {x : Str} {p' : Pos} (hX : XS X) (he : PE X e (tE (zx X cl) f)) (hi : X.N[i]? = some x := by rfl) (hx : Loc X.env.scope x := by first | exact Or.inl rfl | exact Or.inr rfl) (hs : swapsWith e (some (.Name x p')) pos.line X.env = pure false := by rfl)
    (hf : X.fn x = true ∨ X.env.scope.names.lookup x = some .local := by first | exact .inl rfl | exact .inr rfl) : PS X (.Assign [.Name x p'] e pos) (tS (zx X cl) (sSet i f)) := by
  refine ps_w (ps_set hX.nd hi hx he hs hf) fun D σ H ⟨env, w, out, e, k, hr, q⟩ => ?_
  subst e
  obtain ⟨r, h3, h4⟩ := Option.bind_eq_some_iff.mp hr
  obtain ⟨e', h5, rfl⟩ := Option.map_eq_some_iff.mp h4
  refine ⟨env, w, r, rfl, k, h3, fun v w1 g1 r1 => ?_⟩
  exact q _ w1 (g1.gs k.wf) (setV_ok (k.mono g1) h5 r1)
theorem sOwn_rd {i : Nat} {D : Ends} {σ : L2.St} {H : Hp} {Z : Zc} (hh : tS Z (sOwn i fl) D σ H) : tL Z fl σ H fun v H1 => D.nx (σ.set i (some v)) H1 := by
  obtain ⟨env, w, out, e, k, hr, q⟩ := hh
  subst e
  obtain ⟨⟨t, ds⟩, h3, h4⟩ := Option.bind_eq_some_iff.mp hr
  dsimp only at h4
  split at h4
  · rename_i hi
    split at h4
    · cases h4
      exact ⟨env, w, .N, ds, rfl, k, h3, by decide, fun p vs w1 g1 hp hH hB r => q _ w1 (g1.gs k.wf) (k.own hi g1 hp hH hB r)⟩
    · cases h4
  · cases h4
theorem js_own (i : Nat) {x : Str} {p' : Pos} (hX : XS X) (he : PE X e (tL (zx X cl) fl)) (hi : X.N[i]? = some x := by rfl) (hx : Loc X.env.scope x := by first | exact Or.inl rfl | exact Or.inr rfl) (hs : swapsWith e (some (.Name x p')) pos.line X.env = pure false := by rfl)
    (hf : X.fn x = true ∨ X.env.scope.names.lookup x = some .local := by first | exact .inl rfl | exact .inr rfl) : PS X (.Assign [.Name x p'] e pos) (tS (zx X cl) (sOwn i fl)) :=
  ps_w (ps_set hX.nd hi hx he hs hf) fun _ _ _ hh => sOwn_rd hh
theorem js_ret (he : PE X e (tE (zx X cl) f)) : PS X (.Return (some e) pos) (tS (zx X cl) (sRet f)) := by
  refine ps_w (ps_ret he) fun D σ H ⟨env, w, out, e, k, hr, q⟩ => ?_
  subst e
  obtain ⟨r, h3, rfl⟩ := Option.map_eq_some_iff.mp hr
  exact ⟨env, w, r, rfl, k, h3, fun v w1 g1 r1 => q v w1 (g1.gs k.wf) r1⟩
theorem js_if (hc : PT X c (tT (zx X cl) ct)) (ha : PSs X body (tS (zx X cl) A)) (hb : PSs X orelse (tS (zx X cl) B)) : PS X (.If c body orelse pos) (tS (zx X cl) (sIf ct A B)) := by
  refine ps_w (ps_if hc ha hb) fun D σ H ⟨env, w, out, e, k, hr, q⟩ => ?_
  subst e
  obtain ⟨r, h3, h4⟩ := Option.bind_eq_some_iff.mp hr
  refine ⟨env, w, r, rfl, k, h3, fun w1 g1 => ?_⟩
  cases r with
  | true => exact ⟨env, w1, out, rfl, k.mono g1, h4, q.mono (g1.gs k.wf)⟩
  | false => exact ⟨env, w1, out, rfl, k.mono g1, h4, q.mono (g1.gs k.wf)⟩
theorem js_app (i : Nat) {x : Str} {px apos cpos : Pos} (he : PE X e (tE (zx X cl) f)) (hN : X.N[i]? = some x := by rfl) (hv : Vis X.env.scope x := by first | exact Or.inl rfl | exact Or.inr (Or.inl rfl) | exact Or.inr (Or.inr rfl))
    (hd : (x == ("__debug__" : Str)) = false := by decide) (hcd : (x == ("__classdict__" : Str)) = false := by decide) (hbase : attributeBase (.Name x px) "append" X.env (eval (.Name x px) X.env) = eval (.Name x px) X.env := by rfl)
    (hline : (apos.endLine == cpos.line) = true := by rfl) (hs : starEach [e] X.env = (false, eval e X.env) :: starEach [] X.env := by rfl)
    (hfew : ((backTo cpos (starEach [e] X.env)).all (fun x => !x.1) && (backToKw cpos (keywordEach [] X.env)).all (fun x => x.1.isSome) && decide ([e].length + ([] : List Keyword).length + (if ([] : List Keyword).isEmpty then 0 else 1) < 30)) = true := by rfl) :
    PS X (.Expr (.Call (.Attribute (.Name x px) "append" apos) [e] [] cpos) pos) (tS (zx X cl) (sApp i f)) := by
  refine ps_w (ps_expr (pe_bm PySem.F.plainAttrs_list PySem.F.slot_list_append PySem.F.type_list_append mt_append (pe_var hN hv hd hcd) (pa_cons he pa_nil hs) hbase hfew hline hs rfl)) fun D σ H ⟨env, w, out, e, k, hr, q⟩ => ?_
  subst e
  unfold sApp at hr
  split at hr
  · rename_i ds henv
    obtain ⟨r, h3, h4⟩ := Option.bind_eq_some_iff.mp hr
    obtain ⟨o, ho, p, vs, rfl, h5, h6, hpm, h7⟩ := k.sl i _ henv
    refine ⟨.ref p, ho, .inl ⟨rfl, _, SqL.of h5⟩, env, w, r, rfl, k, h3, fun v w1 g1 r1 => ?_⟩
    obtain ⟨t, d⟩ := r
    dsimp only at h4
    split at h4
    · split at h4
      · rename_i hl
        cases h4
        refine ⟨p, vs, v, rfl, rfl, g1.h _ _ h5, lim_lt (by rw [h7.length]; exact hl), ?_⟩
        obtain ⟨k2, g2⟩ := (k.mono g1).mut (us := vs ++ [v]) (es := ds ++ [d]) henv ho (g1.h _ _ h5) (own_mono g1 h5 h6) (by rw [g1.m]; exact hpm) ((RpL.mono g1.n h7).append (.cons r1 .nil))
        exact q σ _ ((g1.gs k.wf).trans g2) k2
      · cases h4
    · cases h4
  · cases hr
theorem js_ext (i : Nat) {x : Str} {px apos cpos : Pos} (he : PE X e (tE (zx X cl) f)) (hN : X.N[i]? = some x := by rfl) (hv : Vis X.env.scope x := by first | exact Or.inl rfl | exact Or.inr (Or.inl rfl) | exact Or.inr (Or.inr rfl))
    (hd : (x == ("__debug__" : Str)) = false := by decide) (hcd : (x == ("__classdict__" : Str)) = false := by decide) (hbase : attributeBase (.Name x px) "extend" X.env (eval (.Name x px) X.env) = eval (.Name x px) X.env := by rfl)
    (hline : (apos.endLine == cpos.line) = true := by rfl) (hs : starEach [e] X.env = (false, eval e X.env) :: starEach [] X.env := by rfl)
    (hfew : ((backTo cpos (starEach [e] X.env)).all (fun x => !x.1) && (backToKw cpos (keywordEach [] X.env)).all (fun x => x.1.isSome) && decide ([e].length + ([] : List Keyword).length + (if ([] : List Keyword).isEmpty then 0 else 1) < 30)) = true := by rfl) :
    PS X (.Expr (.Call (.Attribute (.Name x px) "extend" apos) [e] [] cpos) pos) (tS (zx X cl) (sExt i f)) := by
  refine ps_w (ps_expr (pe_bm PySem.F.plainAttrs_list PySem.F.slot_list_extend PySem.F.type_list_extend mt_extend (pe_var hN hv hd hcd) (pa_cons he pa_nil hs) hbase hfew hline hs rfl)) fun D σ H ⟨env, w, out, e, k, hr, q⟩ => ?_
  subst e
  unfold sExt at hr
  split at hr
  · rename_i ds henv
    obtain ⟨r, h3, h4⟩ := Option.bind_eq_some_iff.mp hr
    obtain ⟨o, ho, p, vs, rfl, h5, h6, hpm, h7⟩ := k.sl i _ henv
    refine ⟨.ref p, ho, .inl ⟨rfl, _, SqL.of h5⟩, env, w, r, rfl, k, h3, fun v w1 g1 r1 => ?_⟩
    obtain ⟨t, d⟩ := r
    dsimp only at h4
    split at h4
    · split at h4
      · rename_i es hl
        cases h4
        obtain ⟨p', us, rfl, h8, h9⟩ := RV.lst g1.wf r1
        refine ⟨p, p', vs, us, rfl, rfl, g1.h _ _ h5, h8, lim_le (by rw [h7.length, h9.length]; exact hl), ?_⟩
        obtain ⟨k2, g2⟩ := (k.mono g1).mut (us := vs ++ us) (es := ds ++ es) henv ho (g1.h _ _ h5) (own_mono g1 h5 h6) (by rw [g1.m]; exact hpm) ((RpL.mono g1.n h7).append h9)
        exact q σ _ ((g1.gs k.wf).trans g2) k2
      · cases h4
    · cases h4
  · cases hr
/-! ### what a for walks -/
abbrev WG := Wd → Wd → Prop
structure Wk (G : WG) (Z : Zc) (J : It) (w : Wd) (items : List TD) : Prop where
  stop : ∀ w', G w w' → J.stop items.length w'.H
  go : ∀ (i : Nat) (r : TD) (w' : Wd), G w w' → items[i]? = some r → J.go i w'.H ∧ ∀ x H', J.yld i w'.H x H' → ∃ w2, Gr w' w2 ∧ w2.H = H' ∧ RV Z w2 r x
structure Gwf (G : WG) : Prop where
  wf : ∀ w w', G w w' → Wf w'
theorem gwf_s : Gwf Gs := ⟨fun _ _ g => g.wf⟩
theorem gwf_r : Gwf Gr := ⟨fun _ _ g => g.wf⟩
abbrev FI := Ev → Option (List TD)
def tI (G : WG) (Z : Zc) (fi : FI) : TI := fun σ H R => ∃ env w items, w.H = H ∧ Wok Z env σ w ∧ fi env = some items ∧ ∀ J w', Gr w w' → Wk G Z J w' items → R J w'.H
theorem pi_w {tg iter : Expr} {t t' : TI} (h : PI X tg iter t) (hw : ∀ σ H R, t' σ H R → t σ H R) : PI X tg iter t' := ⟨fun pins s σ H R I q => h.run pins s σ H R I (hw _ _ _ q)⟩
def iRng (n : Nat) (lo : Int) : List TD := (List.range n).map fun k => (.N, .int (lo + (k : Nat)))
noncomputable def r1K (r : TD) : Option (List TD) := match r.2 with | .int j => cif (j < 4611686018427387904 ∧ -4611686018427387904 ≤ j) (some (iRng j.toNat 0)) none | _ => none
noncomputable def sR1 (f : FE) : FI := fun env => (f env).bind r1K
noncomputable def r2K (r r' : TD) : Option (List TD) := match r.2, r'.2 with
  | .int i, .int j => cif (i < 4611686018427387904 ∧ -4611686018427387904 ≤ i ∧ j < 4611686018427387904 ∧ -4611686018427387904 ≤ j) (some (iRng (j - i).toNat i)) none
  | _, _ => none
noncomputable def sR2 (f g : FE) : FI := fun env => (f env).bind fun r => (g env).bind fun r' => r2K r r'
def itemsOf (r : TD) : Option (List TD) := match r.1, r.2 with
  | .N, .lst xs => some (xs.map fun d => nm (.N, d))
  | .B, .lst xs => some (xs.map fun d => nm (.B, d))
  | .N, .scr xs => some (xs.map fun d => nm (.N, d))
  | .B, .scr xs => some (xs.map fun d => nm (.B, d))
  | .N, .tup xs => some (xs.map fun d => nm (.N, d))
  | .B, .tup xs => some (xs.map fun d => nm (.B, d))
  | _, _ => none
@[simp] def sIt (f : FE) : FI := fun env => (f env).bind itemsOf
theorem wk_rng {G : WG} (hG : Gwf G) {Z : Zc} {w : Wd} (n : Nat) (lo : Int) : Wk G Z (Itr lo n) w (iRng n lo) := by
  refine ⟨fun w' g => ?_, fun i r w' g hr => ?_⟩
  · show n ≤ (iRng n lo).length
    unfold iRng
    simp
  · unfold iRng at hr
    rw [List.getElem?_map] at hr
    obtain ⟨k, h1, rfl⟩ := Option.map_eq_some_iff.mp hr
    have hi : i < n := by
      have := (List.getElem?_eq_some_iff.mp h1).1
      simpa using this
    have hk : k = i := by
      rw [List.getElem?_range hi] at h1
      exact (Option.some.inj h1).symm
    subst hk
    refine ⟨hi, fun x H' hy => ⟨w', Gr.refl (hG.wf _ _ g), hy.1.symm, ?_⟩⟩
    rw [hy.2]
    exact nN (.int _) rfl
theorem ji_range1 {tg : Expr} {p : Pos} {G : WG} (hG : Gwf G) (hm : X.mg "range" = none) (ha : PA X [a] (tA (zx X cl) (sCons f sNil))) (hg : Gl X "range" := by rfl) (hs : starEach [a] X.env = [(false, eval a X.env)] := by rfl) : PI X tg (.Call (.Name "range" p) [a] [] pos) (tI G (zx X cl) (sR1 f)) := by
  refine pi_w (pi_range1 hg hm ha (hs := hs)) fun σ H R ⟨env, w, items, e, k, hr, q⟩ => ?_
  subst e
  obtain ⟨⟨t, d⟩, h1, h2⟩ := Option.bind_eq_some_iff.mp hr
  unfold r1K at h2
  dsimp only at h2
  split at h2
  · unfold cif at h2
    split at h2
    · rename_i j hj
      cases h2
      refine ⟨env, w, [(t, .int j)], rfl, k, by unfold sCons sNil; rw [h1]; rfl, fun vs w1 g1 r1 => ?_⟩
      obtain ⟨v, rfl, hv⟩ := rvs1 r1
      exact ⟨j, by rw [rv_int g1.wf hv], by omega, by omega, q _ w1 g1 (wk_rng hG _ _)⟩
    · cases h2
  · cases h2
theorem gs_rd {w w' : Wd} (g : Gs w w') {t : Tg} (ht : t = .N ∨ t = .B) : Same (w.rd t) (w'.rd t) := by
  rcases ht with rfl | rfl
  · exact g.n
  · exact g.b
theorem wk_l {Z : Zc} {w : Wd} {t : Tg} (ht : t = .N ∨ t = .B) {p : Addr} {vs : List V} {ds : List D} (hw : Wf w) (h : SqL Z.K (w.rd t) p vs) (r : RpL Z (w.rd t) vs ds) : Wk Gs Z (Itl Z.K p) w (ds.map fun d => nm (t, d)) := by
  have hO : t ≠ .O := by rcases ht with rfl | rfl <;> decide
  have top : ∀ {w'}, Gs w w' → SqL Z.K w'.H p vs := fun {w'} g => ((gs_rd g ht).trans (rd_le g.wf t)).seq h
  refine ⟨fun w' g => ⟨vs, top g, by rw [List.length_map, r.length]; exact Nat.le_refl _⟩, fun i rr w' g hr => ?_⟩
  rw [List.getElem?_map] at hr
  obtain ⟨d, h1, rfl⟩ := Option.map_eq_some_iff.mp hr
  obtain ⟨v, h2, h3⟩ := r.get h1
  refine ⟨⟨vs, v, top g, h2⟩, fun x H' hy => ⟨w', Gr.refl g.wf, hy.1.symm, ?_⟩⟩
  have e := hy.2 vs (top g)
  rw [h2] at e
  cases e
  exact RV.nm g.wf (RV.of hO (Rp.mono (gs_rd g ht) h3))
theorem wk_t {Z : Zc} {w : Wd} {t : Tg} (ht : t = .N ∨ t = .B) {p : Addr} {vs : List V} {ds : List D} (hw : Wf w) (h : SqT Z.K (w.rd t) p vs) (r : RpL Z (w.rd t) vs ds) : Wk Gs Z (Itt Z.K p) w (ds.map fun d => nm (t, d)) := by
  have hO : t ≠ .O := by rcases ht with rfl | rfl <;> decide
  have top : ∀ {w'}, Gs w w' → SqT Z.K w'.H p vs := fun {w'} g => sqT_mono ((gs_rd g ht).trans (rd_le g.wf t)) h
  refine ⟨fun w' g => ⟨vs, top g, by rw [List.length_map, r.length]; exact Nat.le_refl _⟩, fun i rr w' g hr => ?_⟩
  rw [List.getElem?_map] at hr
  obtain ⟨d, h1, rfl⟩ := Option.map_eq_some_iff.mp hr
  obtain ⟨v, h2, h3⟩ := r.get h1
  refine ⟨⟨vs, v, top g, h2⟩, fun x H' hy => ⟨w', Gr.refl g.wf, hy.1.symm, ?_⟩⟩
  have e := hy.2 vs (top g)
  rw [h2] at e
  cases e
  exact RV.nm g.wf (RV.of hO (Rp.mono (gs_rd g ht) h3))
theorem ji_it {tg : Expr} (ha : PE X a (tE (zx X cl) f)) : PI X tg a (tI Gs (zx X cl) (sIt f)) := by
  refine ⟨fun pins s σ H R I ⟨env, w, items, e, k, hr, q⟩ => ?_⟩
  subst e
  obtain ⟨⟨t, d⟩, h1, h2⟩ := Option.bind_eq_some_iff.mp hr
  have lst : ∀ (u : Tg), (u = .N ∨ u = .B) → ∀ (xs : List D), f env = some (u, .lst xs) → items = xs.map (fun d => nm (u, d)) → iList X.K (tE (zx X cl) f) σ w.H R := fun u hu xs hf hi =>
    ⟨env, w, _, rfl, k, hf, fun v w1 g1 r1 => by
      have hO : u ≠ .O := by rcases hu with rfl | rfl <;> decide
      have r2 := RV.rp hO r1
      cases r2 with
      | lst h r =>
        refine ⟨_, rfl, ⟨_, SqL.of (rd_le g1.wf u _ _ h)⟩, q _ w1 g1 ?_⟩
        rw [hi]
        exact wk_l hu g1.wf (SqL.of h) r⟩
  have scr : ∀ (u : Tg), (u = .N ∨ u = .B) → ∀ (xs : List D), f env = some (u, .scr xs) → items = xs.map (fun d => nm (u, d)) → iList X.K (tE (zx X cl) f) σ w.H R := fun u hu xs hf hi =>
    ⟨env, w, _, rfl, k, hf, fun v w1 g1 r1 => by
      have hO : u ≠ .O := by rcases hu with rfl | rfl <;> decide
      have r2 := RV.rp hO r1
      cases r2 with
      | scr h r =>
        refine ⟨_, rfl, ⟨_, (rd_le g1.wf u).seq h⟩, q _ w1 g1 ?_⟩
        rw [hi]
        exact wk_l hu g1.wf h r⟩
  have tup : ∀ (u : Tg), (u = .N ∨ u = .B) → ∀ (xs : List D), f env = some (u, .tup xs) → items = xs.map (fun d => nm (u, d)) → iTup X.K (tE (zx X cl) f) σ w.H R := fun u hu xs hf hi =>
    ⟨env, w, _, rfl, k, hf, fun v w1 g1 r1 => by
      have hO : u ≠ .O := by rcases hu with rfl | rfl <;> decide
      have r2 := RV.rp hO r1
      cases r2 with
      | tup h r =>
        refine ⟨_, rfl, ⟨_, sqT_mono (rd_le g1.wf u) h⟩, q _ w1 g1 ?_⟩
        rw [hi]
        exact wk_t hu g1.wf h r⟩
  unfold itemsOf at h2
  dsimp only at h2
  split at h2 <;> first
    | exact (pi_list ha).run pins s σ _ R I (lst _ (.inl rfl) _ h1 (Option.some.inj h2).symm)
    | exact (pi_list ha).run pins s σ _ R I (lst _ (.inr rfl) _ h1 (Option.some.inj h2).symm)
    | exact (pi_list ha).run pins s σ _ R I (scr _ (.inl rfl) _ h1 (Option.some.inj h2).symm)
    | exact (pi_list ha).run pins s σ _ R I (scr _ (.inr rfl) _ h1 (Option.some.inj h2).symm)
    | exact (pi_tup ha).run pins s σ _ R I (tup _ (.inl rfl) _ h1 (Option.some.inj h2).symm)
    | exact (pi_tup ha).run pins s σ _ R I (tup _ (.inr rfl) _ h1 (Option.some.inj h2).symm)
    | cases h2
/-! within a comprehension any list may be walked -/
def itemsR (r : TD) : Option (List TD) := match r.2 with
  | .lst xs => some (xs.map fun d => nm (el r.1, d))
  | .scr xs => some (xs.map fun d => nm (el r.1, d))
  | .tup xs => some (xs.map fun d => nm (el r.1, d))
  | _ => none
@[simp] def sItr (f : FE) : FI := fun env => (f env).bind itemsR
theorem wkr_l {Z : Zc} {w : Wd} {t : Tg} (ht : t ≠ .O) {p : Addr} {vs : List V} {ds : List D} (h : SqL Z.K w.H p vs) (r : RpL Z (w.rd t) vs ds) : Wk Gr Z (Itl Z.K p) w (ds.map fun d => nm (t, d)) := by
  have top : ∀ {w'}, Gr w w' → SqL Z.K w'.H p vs := fun {w'} g => g.h.seq h
  refine ⟨fun w' g => ⟨vs, top g, by rw [List.length_map, r.length]; exact Nat.le_refl _⟩, fun i rr w' g hr => ?_⟩
  rw [List.getElem?_map] at hr
  obtain ⟨d, h1, rfl⟩ := Option.map_eq_some_iff.mp hr
  obtain ⟨v, h2, h3⟩ := r.get h1
  refine ⟨⟨vs, v, top g, h2⟩, fun x H' hy => ⟨w', Gr.refl g.wf, hy.1.symm, ?_⟩⟩
  have e := hy.2 vs (top g)
  rw [h2] at e
  cases e
  exact RV.nm g.wf (RV.of ht (Rp.mono (rd_gr g t) h3))
theorem wkr_t {Z : Zc} {w : Wd} {t : Tg} (ht : t ≠ .O) {p : Addr} {vs : List V} {ds : List D} (h : SqT Z.K w.H p vs) (r : RpL Z (w.rd t) vs ds) : Wk Gr Z (Itt Z.K p) w (ds.map fun d => nm (t, d)) := by
  have top : ∀ {w'}, Gr w w' → SqT Z.K w'.H p vs := fun {w'} g => sqT_mono g.h h
  refine ⟨fun w' g => ⟨vs, top g, by rw [List.length_map, r.length]; exact Nat.le_refl _⟩, fun i rr w' g hr => ?_⟩
  rw [List.getElem?_map] at hr
  obtain ⟨d, h1, rfl⟩ := Option.map_eq_some_iff.mp hr
  obtain ⟨v, h2, h3⟩ := r.get h1
  refine ⟨⟨vs, v, top g, h2⟩, fun x H' hy => ⟨w', Gr.refl g.wf, hy.1.symm, ?_⟩⟩
  have e := hy.2 vs (top g)
  rw [h2] at e
  cases e
  exact RV.nm g.wf (RV.of ht (Rp.mono (rd_gr g t) h3))
theorem jir_it {tg : Expr} (ha : PE X a (tE (zx X cl) f)) : PI X tg a (tI Gr (zx X cl) (sItr f)) := by
  refine ⟨fun pins s σ H R I ⟨env, w, items, e, k, hr, q⟩ => ?_⟩
  subst e
  obtain ⟨⟨t, d⟩, h1, h2⟩ := Option.bind_eq_some_iff.mp hr
  unfold itemsR at h2
  dsimp only at h2
  split at h2
  · cases h2
    exact (pi_list ha).run pins s σ _ R I ⟨env, w, _, rfl, k, h1, fun v w1 g1 r1 => by
      obtain ⟨p, vs, rfl, h3, h4⟩ := RV.lst g1.wf r1
      exact ⟨_, rfl, ⟨_, SqL.of h3⟩, q _ w1 g1 (wkr_l (el_ne t) (SqL.of h3) h4)⟩⟩
  · cases h2
    exact (pi_list ha).run pins s σ _ R I ⟨env, w, _, rfl, k, h1, fun v w1 g1 r1 => by
      obtain ⟨p, vs, rfl, h3, h4⟩ := RV.scr g1.wf r1
      exact ⟨_, rfl, ⟨_, h3⟩, q _ w1 g1 (wkr_l (el_ne t) h3 h4)⟩⟩
  · cases h2
    exact (pi_tup ha).run pins s σ _ R I ⟨env, w, _, rfl, k, h1, fun v w1 g1 r1 => by
      obtain ⟨p, vs, rfl, h3, h4⟩ := RV.tup g1.wf r1
      exact ⟨_, rfl, ⟨_, h3⟩, q _ w1 g1 (wkr_t (el_ne t) h3 h4)⟩⟩
  · cases h2
/-- a text, sign by sign -/
def signsOf (r : TD) : Option (List TD) := match r.2 with
  | .str z => some (z.cps.toList.map fun c => (.N, .str ⟨#[c]⟩))
  | _ => none
@[simp] def sIs (f : FE) : FI := fun env => (f env).bind signsOf
def oNeg (r : TD) : Option TD := match r.2 with | .int i => some (.N, .int (-i)) | _ => none
theorem je_neg (ha : PE X a (tE (zx X cl) f)) : PE X (.UnaryOp .USub a pos) (tE (zx X cl) (sUn oNeg f)) := by
  refine pe_w (pe_un un_neg ha) fun σ H Q ⟨env, w, r, e, k, hr, q⟩ => ?_
  subst e
  obtain ⟨⟨t, d⟩, h1, h2⟩ := Option.bind_eq_some_iff.mp hr
  unfold oNeg at h2
  dsimp only at h2
  split at h2
  · rename_i i
    cases h2
    exact ⟨env, w, _, rfl, k, h1, fun v w1 g1 r1 => ⟨i, rv_int g1.wf r1, q _ w1 g1 (nN (.int (-i)) rfl)⟩⟩
  · cases h2
/-! x += e, x -= e (ints) -/
def augI (g : Int → Int → Int) (i : Nat) (f : FE) : FS := fun env => (sVar i env).bind fun a => (f env).bind fun b => match a.2, b.2 with
  | .int x, .int y => (setV i (.N, .int (g x y)) env).map .nx
  | _, _ => none
/-! reversed(e) -/
def itemsRev (r : TD) : Option (List TD) := match r.1, r.2 with
  | .N, .lst xs => some (xs.reverse.map fun d => nm (.N, d))
  | .B, .lst xs => some (xs.reverse.map fun d => nm (.B, d))
  | .N, .tup xs => some (xs.reverse.map fun d => nm (.N, d))
  | .B, .tup xs => some (xs.reverse.map fun d => nm (.B, d))
  | _, _ => none
/-! a try whose body raises nothing -/
end
end Vf
namespace Vf
open PySem L2
/-! ### targets -/
def tG (Z : Zc) (is : List Nat) (st : TD → Ev → Option Ev) : TG := fun v σ H Q => ∃ env w r e, w.H = H ∧ Wok Z env σ w ∧ RV Z w r v ∧ st r env = some e ∧
  ∀ σ' w', Gr w w' → Wok Z e σ' w' → (∀ n, n ∉ is → σ'[n]? = σ[n]?) → σ'.length = σ.length → Q σ' w'.H
def tGs (Z : Zc) (is : List Nat) (st : List TD → Ev → Option Ev) : TGs := fun vs σ H Q => ∃ env w rs e, w.H = H ∧ Wok Z env σ w ∧ RVs Z w rs vs ∧ st rs env = some e ∧
  ∀ σ' w', Gr w w' → Wok Z e σ' w' → (∀ n, n ∉ is → σ'[n]? = σ[n]?) → σ'.length = σ.length → Q σ' w'.H
def setNil : List TD → Ev → Option Ev := fun rs env => match rs with | [] => some env | _ => none
def setCons (s : TD → Ev → Option Ev) (l : List TD → Ev → Option Ev) : List TD → Ev → Option Ev := fun rs env => match rs with | r :: rs => (s r env).bind fun e => l rs e | _ => none
def unp (r : TD) : Option (List TD) := match r.2 with
  | .tup xs => some (xs.map fun d => nm (el r.1, d))
  | .lst xs => some (xs.map fun d => nm (el r.1, d))
  | .scr xs => some (xs.map fun d => nm (el r.1, d))
  | _ => none
def setTup (n : Nat) (l : List TD → Ev → Option Ev) : TD → Ev → Option Ev := fun r env => (unp r).bind fun rs => if rs.length = n then l rs env else none
theorem rvs_of {Z : Zc} {w : Wd} (hw : Wf w) {t : Tg} (ht : t ≠ .O) : ∀ {vs : List V} {ds : List D}, RpL Z (w.rd t) vs ds → RVs Z w (ds.map fun d => nm (t, d)) vs
  | _, _, .nil => trivial
  | _, _, .cons h r => ⟨RV.nm hw (RV.of ht h), rvs_of hw ht r⟩
section
variable {X : Cx} {cl : Str → Option Addr} {a b c e tg iter elt : Expr} {es : List Expr} {f g h : FE} {fa : FA} {fl : FL} {ct : FT} {A B : FS} {pos : Pos} {st : Stmt} {rest body orelse : List Stmt} {fi : FI} {is js : List Nat} {s : TD → Ev → Option Ev} {l : List TD → Ev → Option Ev}
theorem jg_name (i : Nat) {x : Str} (hX : XS X) (hi : X.N[i]? = some x := by rfl) (hx : Loc X.env.scope x := by first | exact Or.inl rfl | exact Or.inr rfl) (hf : X.fn x = true ∨ X.env.scope.names.lookup x = some .local := by first | exact .inl rfl | exact .inr rfl) : PG X (.Name x pos) (tG (zx X cl) [i] (setV i)) := by
  refine ⟨fun pins s σ H v u Q I r ⟨env, w, rr, e, eH, k, hv, hs, q⟩ => (pg_name (i := i) hX.nd hi hx hf).run pins s σ H v u Q I r ?_⟩
  subst eH
  exact q _ w (Gr.refl k.wf) (setV_ok k hs hv) (fun n hn => List.getElem?_set_ne fun e => hn (by rw [← e]; exact List.mem_singleton.mpr rfl)) List.length_set
theorem jgs_nil : PGs X [] (tGs (zx X cl) [] setNil) := by
  refine ⟨fun pins s σ H vs us Q I r ⟨env, w, rs, e, eH, k, hv, hs, q⟩ => pgs_nil.run pins s σ H vs us Q I r ?_⟩
  subst eH
  match rs, vs, hv, hs with
  | [], [], _, hs => cases hs; exact ⟨rfl, q σ w (Gr.refl k.wf) k (fun _ _ => rfl) rfl⟩
theorem jgs_cons (h1 : PG X e (tG (zx X cl) is s)) (h2 : PGs X es (tGs (zx X cl) js l)) (hs : (assignEach (e :: es) X.env).map (·.2) = assign e X.env :: (assignEach es X.env).map (·.2) := by rfl) : PGs X (e :: es) (tGs (zx X cl) (is ++ js) (setCons s l)) := by
  refine ⟨fun pins s' σ H vs us Q I r ⟨env, w, rs, e', eH, k, hv, hs', q⟩ => (pgs_cons h1 h2 hs).run pins s' σ H vs us Q I r ?_⟩
  subst eH
  match rs, vs, hv, hs' with
  | r0 :: rs, v :: vs, hv, hs' =>
    obtain ⟨e1, h3, h4⟩ := Option.bind_eq_some_iff.mp hs'
    refine ⟨v, vs, rfl, env, w, r0, e1, rfl, k, hv.1, h3, fun σ1 w1 g1 k1 f1 l1 => ⟨e1, w1, rs, e', rfl, k1, hv.2.mono g1, h4, fun σ2 w2 g2 k2 f2 l2 => q σ2 w2 (g1.trans g2) k2 (fun n hn => ?_) (l2.trans l1)⟩⟩
    rw [f2 n fun z => hn (List.mem_append_right _ z), f1 n fun z => hn (List.mem_append_left _ z)]
theorem jg_tup {n k0 : Nat} (hX : XS X) (h2 : PGs X es (tGs (zx X cl) is l)) (hn : (assignEach es X.env).length = n := by rfl) (hst : (assignEach es X.env).findIdx? (·.1) = none := by rfl) : PG X (.Tuple es k0 pos) (tG (zx X cl) is (setTup n l)) := by
  refine ⟨fun pins s' σ H v u Q I r ⟨env, w, rr, e', eH, k, hv, hs', q⟩ => ?_⟩
  subst eH
  obtain ⟨rs, h3, h4⟩ := Option.bind_eq_some_iff.mp hs'
  split at h4
  · rename_i hl
    obtain ⟨t, d⟩ := rr
    unfold unp at h3
    dsimp only at h3
    split at h3
    · cases h3
      obtain ⟨p, vs, rfl, h5, h6⟩ := hv.tup k.wf
      exact (pg_tup hX.calm h2 hn hst).run pins s' σ _ _ u Q I r ⟨p, vs, rfl, h5, by rw [h6.length]; simpa using hl, env, w, _, e', rfl, k, rvs_of k.wf (el_ne t) h6, h4, q⟩
    · cases h3
      obtain ⟨p, vs, rfl, h5, h6⟩ := hv.lst k.wf
      exact (pg_lst hX.calm h2 hn hst).run pins s' σ _ _ u Q I r ⟨p, vs, rfl, SqL.of h5, by rw [h6.length]; simpa using hl, env, w, _, e', rfl, k, rvs_of k.wf (el_ne t) h6, h4, q⟩
    · cases h3
      obtain ⟨p, vs, rfl, h5, h6⟩ := hv.scr k.wf
      exact (pg_lst hX.calm h2 hn hst).run pins s' σ _ _ u Q I r ⟨p, vs, rfl, h5, by rw [h6.length]; simpa using hl, env, w, _, e', rfl, k, rvs_of k.wf (el_ne t) h6, h4, q⟩
    · cases h3
  · cases h4
@[simp] def sAsg (f : FE) (s : TD → Ev → Option Ev) : FS := fun env => (f env).bind fun r => (s r env).map .nx
/-! ### for, while -/
def forL (A : FS) (s : TD → Ev → Option Ev) : List TD → Ev → Option Out
  | [], env => some (.nx env)
  | r :: rs, env => (s r env).bind fun e => (A e).bind fun o => match o with
    | .nx e' => forL A s rs e'
    | .ct e' => forL A s rs e'
    | .bk e' => some (.nx e')
    | .rt r => some (.rt r)
    | .rth x T => some (.rth x T)
@[simp] def sFor (fi : FI) (s : TD → Ev → Option Ev) (A : FS) : FS := fun env => (fi env).bind fun items => forL A s items env
theorem js_for (hp : PassesOwn (model X.prog X.w) X.A X.env X.xe) (hX : XS X) (hi : PI X tg iter (tI Gs (zx X cl) fi)) (hg : PG X tg (tG (zx X cl) is s)) (hb : PSs X body (tS (zx X cl) A)) (hs : ∀ x, foldedSetIterable iter X.env x = pure x := by intro _; rfl) :
    PS X (.For tg iter body [] pos) (tS (zx X cl) (sFor fi s A)) := by
  refine ps_w (ps_for hp hX.calm hi hg hb hs) fun D σ H ⟨env, w, out, e, k, hr, q⟩ => ?_
  subst e
  obtain ⟨items, h3, h4⟩ := Option.bind_eq_some_iff.mp hr
  refine ⟨env, w, items, rfl, k, h3, fun J w1 g1 wk => ?_⟩
  refine ⟨fun i m σ' H' => ∃ env' w', w'.H = H' ∧ Wok (zx X cl) env' σ' w' ∧ Gs w1 w' ∧ m = items.length - i ∧ i ≤ items.length ∧ forL A s (items.drop i) env' = some out, ⟨items.length, env, w1, rfl, k.mono g1, Gs.refl g1.wf, rfl, Nat.zero_le _, h4⟩, ?_⟩
  rintro i m σ' H' ⟨env', w', rfl, k', gs, rfl, hi, hf⟩
  by_cases hlt : i < items.length
  · obtain ⟨r, hr⟩ : ∃ r, items[i]? = some r := ⟨items[i], List.getElem?_eq_getElem hlt⟩
    have hd : items.drop i = r :: items.drop (i + 1) := by
      rw [List.drop_eq_getElem_cons hlt]
      rw [List.getElem?_eq_getElem hlt] at hr
      rw [Option.some.inj hr]
    rw [hd] at hf
    obtain ⟨e1, h5, h6⟩ := Option.bind_eq_some_iff.mp hf
    obtain ⟨o, h7, h8⟩ := Option.bind_eq_some_iff.mp h6
    obtain ⟨go, yl⟩ := wk.go i r w' gs hr
    refine .inr ⟨go, fun σ2 H2 => ∃ m', m' < items.length - i ∧ ∃ env' w', w'.H = H2 ∧ Wok (zx X cl) env' σ2 w' ∧ Gs w1 w' ∧ m' = items.length - (i + 1) ∧ i + 1 ≤ items.length ∧ forL A s (items.drop (i + 1)) env' = some out, fun _ _ z => z, fun x H2 hy => ?_⟩
    obtain ⟨w2, g2, rfl, r2⟩ := yl x H2 hy
    refine ⟨env', w2, r, e1, rfl, k'.mono g2, r2, h5, fun σ3 w3 g3 k3 _ _ => ⟨e1, w3, o, rfl, k3, h7, ?_⟩⟩
    have g23 : Gs w' w3 := (g2.trans g3).gs k'.wf
    cases o with
    | nx e' => exact fun σ4 w4 g4 k4 => ⟨_, by omega, e', w4, rfl, k4, (gs.trans g23).trans g4, rfl, hlt, h8⟩
    | ct e' => exact fun σ4 w4 g4 k4 => ⟨_, by omega, e', w4, rfl, k4, (gs.trans g23).trans g4, rfl, hlt, h8⟩
    | bk e' =>
      cases h8
      exact fun σ4 w4 g4 k4 => q σ4 w4 ((((g1.gs k.wf).trans gs).trans g23).trans g4) k4
    | rt r' =>
      cases h8
      exact fun v w4 g4 r4 => q v w4 ((((g1.gs k.wf).trans gs).trans g23).trans g4) r4
    | rth x T =>
      cases h8
      exact fun v w4 g4 r4 t4 => q v w4 ((((g1.gs k.wf).trans gs).trans g23).trans g4) r4 t4
  · have e : i = items.length := by omega
    subst e
    refine .inl ⟨wk.stop w' gs, ?_⟩
    rw [List.drop_length] at hf
    cases hf
    exact q σ' w' ((g1.gs k.wf).trans gs) k'
/-! ### comprehensions -/
def wipeE (env : Ev) : List Nat → Ev
  | [] => env
  | v :: vs => (wipeE env vs).put v .un
def okT : Tg → Bool | .N => true | .B => true | _ => false
def lcL (ct : FT) (fe : FE) (s : TD → Ev → Option Ev) (env : Ev) : List TD → Option (List TD)
  | [] => some []
  | r :: rs => (s r env).bind fun e => (ct e).bind fun k => if k then (fe e).bind fun y => if okT y.1 then (lcL ct fe s env rs).map fun ys => y :: ys else none else lcL ct fe s env rs
@[simp] def sLc (fi : FI) (s : TD → Ev → Option Ev) (ct : FT) (fe : FE) (vs : List Nat) : FL := fun env => (fi env).bind fun items => if items.length ≤ lim then (lcL ct fe s (wipeE env vs) items).map fun ys => (tagL ys, ys.map (·.2)) else none
@[simp] def sYes : FT := fun _ => some true
theorem jts_nil : PTs X [] (tT (zx X cl) sYes) := by
  refine ⟨fun pins s σ H Q I ⟨env, w, r, e, k, hr, q⟩ => pts_nil.run pins s σ H Q I ?_⟩
  subst e
  cases hr
  exact q w (Gr.refl k.wf)
theorem jts_one (h : PT X c (tT (zx X cl) ct)) : PTs X [c] (tT (zx X cl) ct) := pts_one h
theorem wok_un {Z : Zc} {env : Ev} {σ : L2.St} {w : Wd} (k : Wok Z env σ w) (v : Nat) : Wok Z (env.put v .un) (σ.set v none) w := by
  refine ⟨k.wf, by simpa using k.len, fun j s e => ?_, fun j j' ds es p hne e1 e2 e3 => ?_, k.tb⟩
  · by_cases hj : v = j
    · subst hj
      have hl : v < (env.put v Sl.un).s.length := (List.getElem?_eq_some_iff.mp e).1
      rw [List.length_set] at hl
      rw [List.getElem?_set_self hl] at e
      cases e
      exact ⟨none, List.getElem?_set_self (by rw [k.len]; exact hl), trivial⟩
    · rw [List.getElem?_set_ne hj] at e
      obtain ⟨o, h1, h2⟩ := k.sl j s e
      exact ⟨o, by rw [List.getElem?_set_ne hj]; exact h1, h2⟩
  · have n1 : v ≠ j := fun q => by
      subst q
      have hl : v < (env.put v Sl.un).s.length := (List.getElem?_eq_some_iff.mp e1).1
      rw [List.length_set] at hl
      rw [List.getElem?_set_self hl] at e1
      cases e1
    have n2 : v ≠ j' := fun q => by
      subst q
      have hl : v < (env.put v Sl.un).s.length := (List.getElem?_eq_some_iff.mp e2).1
      rw [List.length_set] at hl
      rw [List.getElem?_set_self hl] at e2
      cases e2
    rw [List.getElem?_set_ne n1] at e1 e3
    rw [List.getElem?_set_ne n2] at e2 ⊢
    exact k.dj j j' ds es p hne e1 e2 e3
theorem wok_wipe {Z : Zc} {env : Ev} {σ : L2.St} {w : Wd} (k : Wok Z env σ w) : ∀ vs : List Nat, Wok Z (wipeE env vs) (wipe σ vs) w
  | [] => k
  | v :: vs => wok_un (wok_wipe k vs) v
theorem wipe_in {σ : L2.St} {i : Nat} : ∀ {vs : List Nat}, i ∈ vs → i < σ.length → (wipe σ vs)[i]? = some none
  | v :: vs, h, hl => by
    unfold wipe
    by_cases e : v = i
    · subst e
      rw [List.getElem?_set_self (by rw [wipe_length]; exact hl)]
    · rw [List.getElem?_set_ne e]
      rcases List.mem_cons.mp h with z | z
      · exact absurd z.symm e
      · exact wipe_in z hl
theorem wipe_eq {σ σ' : L2.St} {is vs : List Nat} (hl : σ'.length = σ.length) (hs : is.all (fun i => vs.contains i) = true) (h : ∀ n, n ∉ is → σ'[n]? = (wipe σ vs)[n]?) : wipe σ' vs = wipe σ vs := by
  apply List.ext_getElem?
  intro n
  by_cases hn : n ∈ vs
  · by_cases hlt : n < σ.length
    · rw [wipe_in hn (by rw [hl]; exact hlt), wipe_in hn hlt]
    · rw [List.getElem?_eq_none (by rw [wipe_length]; omega), List.getElem?_eq_none (by rw [wipe_length]; omega)]
  · rw [wipe_out hn, wipe_out hn]
    have : n ∉ is := fun z => hn (by
      have := List.all_eq_true.mp hs n z
      simpa using this)
    rw [h n this, wipe_out hn]
theorem lcL_len {ct : FT} {fe : FE} {s : TD → Ev → Option Ev} {env : Ev} : ∀ {items ys : List TD}, lcL ct fe s env items = some ys → ys.length ≤ items.length
  | [], ys, h => by cases h; exact Nat.le_refl _
  | r :: rs, ys, h => by
    obtain ⟨e, _, h⟩ := Option.bind_eq_some_iff.mp h
    obtain ⟨k, _, h⟩ := Option.bind_eq_some_iff.mp h
    cases k with
    | false => exact Nat.le_succ_of_le (lcL_len h)
    | true =>
      obtain ⟨y, _, h⟩ := Option.bind_eq_some_iff.mp h
      split at h
      · obtain ⟨zs, h2, rfl⟩ := Option.map_eq_some_iff.mp h
        exact Nat.succ_le_succ (lcL_len h2)
      · cases h
theorem RVs.app {Z : Zc} {w : Wd} : ∀ {rs : List TD} {vs : List V} {r : TD} {v : V}, RVs Z w rs vs → RV Z w r v → RVs Z w (rs ++ [r]) (vs ++ [v])
  | [], [], _, _, _, h => ⟨h, trivial⟩
  | _ :: _, _ :: _, _, _, ⟨h, t⟩, q => ⟨h, RVs.app t q⟩
  | [], _ :: _, _, _, h, _ => h.elim
  | _ :: _, [], _, _, h, _ => h.elim
theorem rvs_same {Z : Zc} {w : Wd} {H' : Hp} : ∀ {rs : List TD} {vs : List V}, rs.all (fun r => okT r.1) = true → RVs Z w rs vs → RVs Z ⟨w.N, w.B, H', w.m⟩ rs vs
  | [], [], _, _ => trivial
  | (t, d) :: rs, v :: vs, ha, ⟨h, t'⟩ => by
    simp only [List.all_cons, Bool.and_eq_true] at ha
    refine ⟨?_, rvs_same ha.2 t'⟩
    cases t with
    | N => exact h
    | B => exact h
    | T => exact absurd ha.1 (by decide)
    | O => exact absurd ha.1 (by decide)
  | [], _ :: _, _, h => h.elim
  | _ :: _, [], _, h => h.elim
theorem lc_rd {X : Cx} {cl : Str → Option Addr} {fi : FI} {is vs : List Nat} {s : TD → Ev → Option Ev} {ct : FT} {f : FE} (hsub : is.all (fun i => vs.contains i) = true) {σ : L2.St} {H : Hp} {Q : VK} (hh : tL (zx X cl) (sLc fi s ct f vs) σ H Q) :
    tLc (tI Gr (zx X cl) fi) (tG (zx X cl) is s) (tT (zx X cl) ct) (tE (zx X cl) f) vs σ H Q := by
  obtain ⟨env, w, t, ds, e, k, hr, ht, q⟩ := hh
  subst e
  obtain ⟨items, h3, h4⟩ := Option.bind_eq_some_iff.mp hr
  split at h4
  · rename_i hil
    obtain ⟨ys, h5, h6⟩ := Option.map_eq_some_iff.mp h4
    cases h6
    refine ⟨env, w, items, rfl, k, h3, fun J w1 g1 wk D hD => ?_⟩
    have k1 : Wok (zx X cl) (wipeE env vs) (wipe σ vs) w1 := wok_wipe (k.mono g1) vs
    -- the list at D is nobody's yet
    refine ⟨fun i m H' => ∃ w' acc rs zs, w'.H = H' ∧ Gr w1 w' ∧ w'.H D = some (.lst acc) ∧ w'.B D = none ∧ RVs (zx X cl) w' rs acc ∧ rs.all (fun r => okT r.1) = true ∧ m = items.length - i ∧ i ≤ items.length ∧ lcL ct f s (wipeE env vs) (items.drop i) = some zs ∧ rs ++ zs = ys,
      ⟨items.length, w1.put .T D (.lst []), [], [], ys, rfl, Gr.put g1.wf hD, upd_same, g1.wf.bh.free hD, trivial, rfl, rfl, Nat.zero_le _, h5, rfl⟩, ?_⟩
    rintro i m H' ⟨w', acc, rs, zs, rfl, g2, hA, hB, hR, hok, rfl, hi, hf, hys⟩
    by_cases hlt : i < items.length
    · obtain ⟨r, hr⟩ : ∃ r, items[i]? = some r := ⟨items[i], List.getElem?_eq_getElem hlt⟩
      have hd : items.drop i = r :: items.drop (i + 1) := by
        rw [List.drop_eq_getElem_cons hlt]
        rw [List.getElem?_eq_getElem hlt] at hr
        rw [Option.some.inj hr]
      rw [hd] at hf
      obtain ⟨e1, h7, h8⟩ := Option.bind_eq_some_iff.mp hf
      obtain ⟨kk, h9, h10⟩ := Option.bind_eq_some_iff.mp h8
      obtain ⟨go, yl⟩ := wk.go i r w' g2 hr
      refine .inr ⟨go, fun H2 => ∃ m', m' < items.length - i ∧ ∃ w' acc rs zs, w'.H = H2 ∧ Gr w1 w' ∧ w'.H D = some (.lst acc) ∧ w'.B D = none ∧ RVs (zx X cl) w' rs acc ∧ rs.all (fun r => okT r.1) = true ∧ m' = items.length - (i + 1) ∧ i + 1 ≤ items.length ∧ lcL ct f s (wipeE env vs) (items.drop (i + 1)) = some zs ∧ rs ++ zs = ys,
        fun _ z => z, fun x H2 hy => ?_⟩
      obtain ⟨w2, g3, rfl, r2⟩ := yl x H2 hy
      refine ⟨wipeE env vs, w2, r, e1, rfl, (k1.mono g2).mono g3, r2, h7, fun σ3 w3 g4 k3 f3 l3 => ⟨?_, e1, w3, kk, rfl, k3, h9, fun w4 g5 => ?_⟩⟩
      · have hl : σ3.length = σ.length := l3.trans (wipe_length σ vs)
        exact wipe_eq hl hsub f3
      · have hA3 : w4.H D = some (.lst acc) := ((g3.trans g4).trans g5).h _ _ hA
        have hB3 : w4.B D = none := own_mono ((g3.trans g4).trans g5) hA hB
        have hR3 := hR.mono ((g3.trans g4).trans g5)
        cases kk with
        | false => exact ⟨_, by omega, w4, acc, rs, zs, rfl, g2.trans ((g3.trans g4).trans g5), hA3, hB3, hR3, hok, rfl, hlt, h10, hys⟩
        | true =>
          obtain ⟨y, h11, h12⟩ := Option.bind_eq_some_iff.mp h10
          split at h12
          · rename_i hy1
            obtain ⟨zs', h13, rfl⟩ := Option.map_eq_some_iff.mp h12
            refine ⟨e1, w4, y, rfl, k3.mono g5, h11, fun v w5 g6 r5 => ⟨acc, g6.h _ _ hA3, ?_, _, by omega, ⟨w5.N, w5.B, upd w5.H D (.lst (acc ++ [v])), w5.m⟩, acc ++ [v], rs ++ [y], zs', rfl, ?_, upd_same, own_mono g6 hA3 hB3, ?_, ?_, rfl, hlt, h13, by rw [List.append_assoc]; exact hys⟩⟩
            · have l1 : acc.length = rs.length := hR.length
              have l2 : ys.length ≤ items.length := lcL_len h5
              have l3 : rs.length ≤ ys.length := by rw [← hys]; simp
              exact lim_lt (by omega)
            · have gg := (g2.trans ((g3.trans g4).trans g5)).trans g6
              exact ⟨⟨gg.wf.nb, same_up1 gg.wf.bh (own_mono g6 hA3 hB3)⟩, gg.n, gg.b, same_up1 gg.h hD, gg.fn, gg.fb, gg.m⟩
            · refine RVs.app (rvs_same hok (hR3.mono g6)) ?_
              obtain ⟨t, d⟩ := y
              cases t with
              | N => exact r5
              | B => exact r5
              | T => exact Bool.noConfusion hy1
              | O => exact Bool.noConfusion hy1
            · rw [List.all_append, hok]
              simpa using hy1
          · cases h12
    · have e : i = items.length := by omega
      subst e
      rw [List.drop_length] at hf
      cases hf
      rw [List.append_nil] at hys
      subst hys
      refine .inl ⟨wk.stop w' g2, ?_⟩
      exact q D acc w' (g1.trans g2) (g1.h.free hD) hA hB (rvs_items g2.wf hR)
  · cases h4
end
end Vf
namespace Vf
open PySem L2
theorem XS.blk {X : Cx} (h : XS X) {s : Shared} {H : Hp} {scope : Scope} {ce : Env} {fp : List Addr} : XS (X.blk s H scope ce fp) := ⟨h.calm, h.nd, h.hu⟩
section
variable {X : Cx} {cl : Str → Option Addr} {a b c e tg iter elt : Expr} {es ifs : List Expr} {f g h : FE} {fa fk : FA} {fl : FL} {ct : FT} {A B : FS} {pos : Pos} {fi : FI} {is js : List Nat} {s : TD → Ev → Option Ev} {scope : Scope} {own : List (Str × Nat)}
theorem jl_lc (own : List (Str × Nat)) (hX : XS X) (hi : PI X tg iter (tI Gr (zx X cl) fi)) (ok : blkC X.N X.env.scope scope own = true)
    (hg : ∀ (s' : Shared) (H : Hp) (C : Addr) (l : List (Str × Addr)) (fp : List Addr), PG (X.blk s' H scope (compEnvC scope l C X.env) fp) tg (tG (zx X cl) is s))
    (ht : ∀ (s' : Shared) (H : Hp) (C : Addr) (l : List (Str × Addr)) (fp : List Addr), PTs (X.blk s' H scope (compEnvC scope l C X.env) fp) ifs (tT (zx X cl) ct))
    (he : ∀ (s' : Shared) (H : Hp) (C : Addr) (l : List (Str × Addr)) (fp : List Addr), PE (X.blk s' H scope (compEnvC scope l C X.env) fp) elt (tE (zx X cl) f))
    (hsub : is.all (fun i => (own.map (·.2)).contains i) = true := by rfl) (hs : ∀ x, foldedSetIterable iter X.env x = pure x := by intro _; rfl) :
    PE X (.ListComp elt [⟨tg, iter, ifs, 0⟩] scope pos) (tL (zx X cl) (sLc fi s ct f (own.map (·.2)))) :=
  pe_w (pe_lc hX.calm hX.nd hi (blkOk_by ok) hg ht he hs) fun _ _ _ hh => lc_rd hsub hh
theorem sSet_rd {i : Nat} {D : Ends} {σ : L2.St} {H : Hp} {Z : Zc} (hh : tS Z (sSet i f) D σ H) : tE Z f σ H fun v H1 => D.nx (σ.set i (some v)) H1 := by
  obtain ⟨env, w, out, e, k, hr, q⟩ := hh
  subst e
  obtain ⟨r, h3, h4⟩ := Option.bind_eq_some_iff.mp hr
  obtain ⟨e', h5, rfl⟩ := Option.map_eq_some_iff.mp h4
  exact ⟨env, w, r, rfl, k, h3, fun v w1 g1 r1 => q _ w1 (g1.gs k.wf) (setV_ok (k.mono g1) h5 r1)⟩
theorem sL_rd {σ : L2.St} {H : Hp} {Q : VK} {Z : Zc} (hh : tE Z (sL fl) σ H Q) : tL Z fl σ H Q := by
  obtain ⟨env, w, r, e, k, hr, q⟩ := hh
  obtain ⟨⟨t, ds⟩, h1, h2⟩ := Option.bind_eq_some_iff.mp hr
  dsimp only at h2
  split at h2
  · cases h2
  · rename_i ht
    cases h2
    refine ⟨env, w, t, ds, e, k, h1, ht, fun p vs w' g1 hp hH hB r => ?_⟩
    obtain ⟨w2, g2, e2, r2⟩ := adopt g1 ht hp hH hB r
    rw [← e2]
    exact q _ w2 g2 r2
theorem js_setLc (i : Nat) (own : List (Str × Nat)) {y : Str} {py spos : Pos} (hX : XS X) (hi : PI X tg iter (tI Gr (zx X cl) fi)) (ok : blkC X.N X.env.scope scope own = true)
    (hg : ∀ (s' : Shared) (H : Hp) (C : Addr) (l : List (Str × Addr)) (fp : List Addr), PG (X.blk s' H scope (compEnvC scope l C X.env) fp) tg (tG (zx X cl) is s))
    (ht : ∀ (s' : Shared) (H : Hp) (C : Addr) (l : List (Str × Addr)) (fp : List Addr), PTs (X.blk s' H scope (compEnvC scope l C X.env) fp) ifs (tT (zx X cl) ct))
    (he : ∀ (s' : Shared) (H : Hp) (C : Addr) (l : List (Str × Addr)) (fp : List Addr), PE (X.blk s' H scope (compEnvC scope l C X.env) fp) elt (tE (zx X cl) f))
    (hy : X.N[i]? = some y := by rfl) (hyl : X.env.scope.names.lookup y = some .local := by rfl)
    (hsw : swapsWith (.ListComp elt [⟨tg, iter, ifs, 0⟩] scope pos) (some (.Name y py)) spos.line X.env = pure true := by exact sw_true rfl rfl rfl (by decide +kernel))
    (hsub : is.all (fun i => (own.map (·.2)).contains i) = true := by rfl) (hs : ∀ x, foldedSetIterable iter X.env x = pure x := by intro _; rfl) :
    PS X (.Assign [.Name y py] (.ListComp elt [⟨tg, iter, ifs, 0⟩] scope pos) spos) (tS (zx X cl) (sSet i (sL (sLc fi s ct f (own.map (·.2)))))) :=
  ps_w (ps_setLc hX.calm hX.nd hy hyl hsw hi (blkOk_by ok) hg ht he hs) fun _ _ _ hh => lc_rd hsub (sL_rd (sSet_rd hh))
/-! ### calls -/
def dn (r : TD) : TD := match r.1 with | .N => (.N, r.2) | _ => nm (.B, r.2)
def up (r : TD) : TD := match r.1 with | .N => (.N, r.2) | _ => nm (.T, r.2)
@[simp] def sCall (g : List TD → Option TD) (fa : FA) : FE := fun env => (fa env).bind fun rs => (g (rs.map dn)).map up
/-- the promise of a def: what it is worth, by g; it keeps all that stands -/
def spG (Z : Zc) (g : List TD → Option TD) : Sp := fun vs H Q _ => ∃ N rs r, Same N H ∧ RVs Z ⟨N, H, H, []⟩ rs vs ∧ rs.all (fun r => okT r.1) = true ∧ g rs = some r ∧ okT r.1 = true ∧ ∀ v w', Gr ⟨N, H, H, []⟩ w' → RV Z w' r v → Q v w'.H
theorem nm_ok {t : Tg} {d : D} (h : okT t = true) : okT (nm (t, d)).1 = true := by cases d <;> first | rfl | exact h
theorem dn_ok (r : TD) : okT (dn r).1 = true := by
  obtain ⟨t, d⟩ := r
  cases t <;> first | rfl | exact nm_ok rfl
theorem dn_rv {Z : Zc} {w : Wd} (hw : Wf w) {r : TD} {v : V} (h : RV Z w r v) : RV Z ⟨w.N, w.H, w.H, []⟩ (dn r) v := by
  have wf : Wf ⟨w.N, w.H, w.H, []⟩ := ⟨hw.nh, .refl _⟩
  have hb : RV Z ⟨w.N, w.H, w.H, []⟩ (.B, r.2) v := h.top hw
  obtain ⟨t, d⟩ := r
  cases t with
  | N => exact h
  | B => exact RV.nm wf hb
  | T => exact RV.nm wf hb
  | O => exact RV.nm wf hb
theorem dn_rvs {Z : Zc} {w : Wd} (hw : Wf w) : ∀ {rs : List TD} {vs : List V}, RVs Z w rs vs → RVs Z ⟨w.N, w.H, w.H, []⟩ (rs.map dn) vs
  | [], [], _ => trivial
  | _ :: _, _ :: _, ⟨h, t⟩ => ⟨dn_rv hw h, dn_rvs hw t⟩
  | [], _ :: _, h => h.elim
  | _ :: _, [], h => h.elim
/-- back at the caller -/
theorem up_rv {Z : Zc} {w w' : Wd} (hw : Wf w) (g : Gr ⟨w.N, w.H, w.H, []⟩ w') {r : TD} {v : V} (ho : okT r.1 = true) (h : RV Z w' r v) : ∃ w2, Gr w w2 ∧ w2.H = w'.H ∧ RV Z w2 (up r) v := by
  have key : ∀ x o, w'.N x = some o → w.B x ≠ none → w.B x = some o := fun x o hx hb => by
    cases q : w.B x with
    | none => exact (hb q).elim
    | some u =>
      have h1 := g.h _ _ (hw.bh _ _ q)
      have h2 := g.wf.nh _ _ hx
      exact congrArg some (Option.some.inj (h1.symm.trans h2))
  let B2 : Hp := fun x => match w.B x with | some o => some o | none => w'.N x
  have b1 : Same w.B B2 := fun x o e => by show (match w.B x with | some o => some o | none => w'.N x) = _; rw [e]
  have b2 : Same w'.N B2 := fun x o e => by
    show (match w.B x with | some o => some o | none => w'.N x) = _
    cases q : w.B x with
    | none => exact e
    | some u => exact (q.symm.trans (key x o e (by rw [q]; exact fun z => nomatch z)))
  have b3 : Same B2 w'.H := fun x o e => by
    have e' : (match w.B x with | some o => some o | none => w'.N x) = some o := e
    cases q : w.B x with
    | none =>
      rw [q] at e'
      exact g.wf.nh _ _ e'
    | some u =>
      rw [q] at e'
      cases e'
      exact g.h _ _ (hw.bh _ _ q)
  have b4 : ∀ x, B2 x ≠ none → w.B x ≠ none ∨ w.H x = none := fun x e => by
    cases q : w.B x with
    | some u => exact .inl (fun z => nomatch z)
    | none =>
      have e' : w'.N x ≠ none := fun z => e (by show (match w.B x with | some o => some o | none => w'.N x) = _; rw [q]; exact z)
      rcases g.fn x e' with z | z
      · cases q2 : w.N x with
        | none => exact (z q2).elim
        | some u =>
          have := hw.nb _ _ q2
          rw [q] at this
          cases this
      · exact .inr z
  have gg : Gr w ⟨w'.N, B2, w'.H, w.m⟩ := ⟨⟨b2, b3⟩, g.n, b1, g.h, g.fn, b4, rfl⟩
  refine ⟨⟨w'.N, B2, w'.H, w.m⟩, gg, rfl, ?_⟩
  have ht : RV Z ⟨w'.N, B2, w'.H, w.m⟩ (.T, r.2) v := h.top g.wf
  obtain ⟨t, d⟩ := r
  cases t with
  | N => exact h
  | B => exact RV.nm gg.wf ht
  | T => exact RV.nm gg.wf ht
  | O => exact RV.nm gg.wf ht
variable {k : Nat} {fad : Addr} {fd : FuncData} {ps : List Str} {gg : List TD → Option TD}
theorem sCall_rd {σ : L2.St} {H : Hp} {Q : VK} {Z : Zc} {E : XK} (hok : ∀ rs r, gg rs = some r → okT r.1 = true) (hh : tE Z (sCall gg fa) σ H Q) : tCall (spG Z gg) [] E (tA Z fa) σ H Q := by
  obtain ⟨env, w, r, e, k, hr, q⟩ := hh
  subst e
  obtain ⟨rs, h1, h2⟩ := Option.bind_eq_some_iff.mp hr
  obtain ⟨r0, h3, rfl⟩ := Option.map_eq_some_iff.mp h2
  refine ⟨env, w, rs, rfl, k, h1, fun vs w1 g1 r1 => ?_⟩
  show spG Z gg (vs ++ []) w1.H Q E
  rw [List.append_nil]
  refine ⟨w1.N, rs.map dn, r0, g1.wf.nh, dn_rvs g1.wf r1, ?_, h3, hok _ _ h3, fun v w' g2 r2 => ?_⟩
  · rw [List.all_map, List.all_eq_true]
    exact fun x _ => dn_ok x
  · obtain ⟨w2, g3, e3, r3⟩ := up_rv g1.wf g2 (hok _ _ h3) r2
    rw [← e3]
    exact q v w2 (g1.trans g3) r3
end
/-! ### a def's promise, by its body -/
def fin (o : Out) : Option TD := match o with
  | .rt (.N, d) => some (.N, d)
  | .rt (.B, d) => some (.B, d)
  | .rt (.O, d) => some (.N, d)
  | .rth (.pu d) _ => some (.N, d)
  | .nx _ => some (.N, .non)
  | _ => none
def env0 (n : Nat) (rs : List TD) : Ev := ⟨rs.map (fun r => .val r.1 r.2) ++ List.replicate (n - rs.length) .un, []⟩
theorem wok_start {Z : Zc} {N : Hp} {H : Hp} (hs : Same N H) {names : List Str} {rs : List TD} {vs : List V} (h : RVs Z ⟨N, H, H, []⟩ rs vs) (ho : rs.all (fun r => okT r.1) = true) (hl : rs.length ≤ names.length) : Wok Z (env0 names.length rs) (L2.start names vs) ⟨N, H, H, []⟩ := by
  have hvl := h.length
  refine ⟨⟨hs, .refl _⟩, ?_, fun i s e => ?_, fun i j ds es p hne e1 e2 e3 => ?_, ⟨rfl, List.nodup_nil, fun a h => (by cases h), fun n M h => (by simp [env0] at h)⟩⟩
  · unfold L2.start env0
    simp only [List.length_append, List.length_map, List.length_replicate]
    omega
  · have aux : ∀ (rs : List TD) (vs : List V) (i : Nat) (r : TD), RVs Z ⟨N, H, H, []⟩ rs vs → rs[i]? = some r → ∃ v, vs[i]? = some v ∧ RV Z ⟨N, H, H, []⟩ r v := by
      intro rs
      induction rs with
      | nil => intro vs i r _ e; simp at e
      | cons r0 rs ih =>
        intro vs i r h e
        match vs, h with
        | v :: vs, h =>
          cases i with
          | zero => simp at e; subst e; exact ⟨v, rfl, h.1⟩
          | succ i => simpa using ih vs i r h.2 (by simpa using e)
    unfold env0 at e
    by_cases hi : i < rs.length
    · rw [List.getElem?_append_left (by rw [List.length_map]; exact hi), List.getElem?_map] at e
      obtain ⟨r, h1, rfl⟩ := Option.map_eq_some_iff.mp e
      obtain ⟨v, h2, h3⟩ := aux rs vs i r h h1
      refine ⟨some v, ?_, v, rfl, ?_⟩
      · unfold L2.start
        rw [List.getElem?_append_left (by rw [List.length_map]; omega), List.getElem?_map, h2]
        rfl
      · have hr := List.all_eq_true.mp ho r (List.mem_of_getElem? h1)
        obtain ⟨t, d⟩ := r
        cases t with
        | N => exact .inl ⟨rfl, h3⟩
        | B => exact .inr ⟨rfl, h3⟩
        | T => exact Bool.noConfusion hr
        | O => exact Bool.noConfusion hr
    · rw [List.getElem?_append_right (by rw [List.length_map]; omega)] at e
      have e2 := List.mem_of_getElem? e
      have e3 := List.eq_of_mem_replicate e2
      subst e3
      have hlt : i - (rs.map fun r => Sl.val r.1 r.2).length < names.length - rs.length := by
        have := (List.getElem?_eq_some_iff.mp e).1
        simpa using this
      rw [List.length_map] at hlt
      refine ⟨none, ?_, trivial⟩
      unfold L2.start
      rw [List.getElem?_append_right (by rw [List.length_map]; omega), List.length_map, List.getElem?_replicate]
      rw [if_pos (by omega)]
  · unfold env0 at e1
    rcases List.mem_append.mp (List.mem_of_getElem? e1) with z | z
    · obtain ⟨r, _, q⟩ := List.mem_map.mp z
      cases q
    · cases List.eq_of_mem_replicate z
section
variable {P : Program} {w : World} {K : PySem.W.Frag} {mg : Str → Option Value} {base : Heap} {cl : Str → Option Addr}
theorem ok_def {x qual : Str} {st : Stmt} {f : Addr} {fd : FuncData} {N ps : List Str} {k : Nat} {g : List TD → Option TD} {B : FS} (F : Fun K x qual st f fd) (S : FnScope N ps (defScope st)) (har : ∀ rs r, g rs = some r → rs.length = ps.length)
    (hb : ∀ (cdv : Value) (A : Around) (outer : List Env) (s : Shared) (H : Hp) (E : XK), Room k (A.deeper (PyProof.Rows.envOfC qual (defScope st) s.heap.objs.size f cdv)) → XS (cxOf CX0 P w K mg base N qual (defScope st) f cdv A outer s H E).nox →
      PSs (cxOf CX0 P w K mg base N qual (defScope st) f cdv A outer s H E).nox (defBody st) (tS ⟨K, cl⟩ B))
    (hsem : ∀ rs r, rs.all (fun r => okT r.1) = true → g rs = some r → (B (env0 N.length rs)).bind fin = some r) : FnOk P w K mg base CX0 (k + 1) f fd ps (spG ⟨K, cl⟩ g) := by
  refine F.ok S (fun vs H Q E h => ?_) (fun cdv A outer s H vs Q E hr h => ?_)
  · obtain ⟨N', rs, r, _, h1, _, h2, _⟩ := h
    rw [h1.length, har _ _ h2]
  · obtain ⟨N', rs, r, h0, h1, h2, h3, h4, q⟩ := h
    have hX : XS (cxOf CX0 P w K mg base N qual (defScope st) f cdv A outer s H E).nox := ⟨rfl, S.nd, by have := hr.un; show (A.deeper _).units + 65 < cLine; omega⟩
    refine ⟨_, hb cdv A outer s H E hr hX, ?_⟩
    obtain ⟨out, e1, e2⟩ := Option.bind_eq_some_iff.mp (hsem rs r h2 h3)
    have hle : rs.length ≤ N.length := by
      have := congrArg List.length S.pre
      rw [List.length_take] at this
      have := har _ _ h3
      omega
    refine ⟨env0 N.length rs, ⟨N', H, H, []⟩, out, rfl, wok_start h0 h1 h2 hle, e1, ?_⟩
    cases out with
    | nx e' =>
      cases e2
      exact fun σ' w' gs k' => q .non ⟨w'.N, w'.B, w'.H, []⟩ gs.gr (nN .non rfl)
    | bk e' => cases e2
    | ct e' => cases e2
    | rth x T =>
      cases x with
      | ob n => cases e2
      | pu d =>
        cases e2
        exact fun v w' gs hv _ => q v ⟨w'.N, w'.B, w'.H, []⟩ gs.gr hv
    | rt r0 =>
      obtain ⟨t, d⟩ := r0
      cases t with
      | N =>
        cases e2
        exact fun v w' gs rv => q v ⟨w'.N, w'.B, w'.H, []⟩ gs.gr rv
      | B =>
        cases e2
        exact fun v w' gs rv => q v ⟨w'.N, w'.B, w'.H, []⟩ gs.gr rv
      | T => cases e2
      | O =>
        cases e2
        intro v w' gs rv
        obtain ⟨p, vs', ds, rfl, rfl, a1, a2, a3⟩ := rv
        obtain ⟨w2, g2, e3, r3⟩ := adopt (Z := ⟨K, cl⟩) (t := .N) gs.gr (by decide) (gs.b.free a2) a1 a2 a3
        show Q _ w'.H
        rw [← e3]
        exact q _ w2 g2 r3
end
/-- where a def of the module stands -/
structure Df (K : PySem.W.Frag) (mg : Str → Option Value) (x : Str) (st : Stmt) (f : Addr) (fd : FuncData) : Prop where
  fn : Fun K x x st f fd
  gm : mg x = some (.ref f)
end Vf
namespace Vf
open PySem L2
/-- a def as its callers see it: by name, at most level k, worth g -/
structure Ca (P : Program) (w : World) (K : PySem.W.Frag) (mg : Str → Option Value) (base : Heap) (cl : Str → Option Addr) (k : Nat) (x : Str) (ps : List Str) (g : List TD → Option TD) : Prop where
  ex : ∃ f fd, FnOk P w K mg base CX0 k f fd ps (spG ⟨K, cl⟩ g) ∧ mg x = some (.ref f) ∧ PySem.W.keepIn K (.ref f) = true ∧ Binds K fd ps [] ∧
    ∀ (s : Shared) (us : List Value), us.length = ps.length → BindsTo s fd ⟨[], ps.zip us⟩ (ps.zip us)
  ok : ∀ rs r, g rs = some r → okT r.1 = true
theorem Ca.mono {P : Program} {w : World} {K : PySem.W.Frag} {mg : Str → Option Value} {base : Heap} {cl : Str → Option Addr} {j k : Nat} {x : Str} {ps : List Str} {g : List TD → Option TD} (C : Ca P w K mg base cl j x ps g) (h : j ≤ k) : Ca P w K mg base cl k x ps g := by
  obtain ⟨f, fd, F, r⟩ := C.ex
  exact ⟨⟨f, fd, F.mono h, r⟩, C.ok⟩
section
variable {X : Cx} {cl : Str → Option Addr} {a b c e : Expr} {es : List Expr} {kws : List Keyword} {fa : FA} {pos : Pos} {ps : List Str} {gg : List TD → Option TD} {k j : Nat}
theorem jc {x : Str} {p : Pos} (C : Ca X.prog X.w X.K X.mg X.base cl k x ps gg) (hr : Room j X.A) (ha : PA X (a :: es) (tA (zx X cl) fa)) (hkj : k ≤ j := by decide) (hg : Gl X x := by rfl) (hdb : (x == ("__debug__" : Str)) = false := by decide)
    (he : starEach (a :: es) X.env = (false, eval a X.env) :: starEach es X.env := by rfl) (hpl : (backTo pos (starEach es X.env)).any (·.1) = false := by rfl) : PE X (.Call (.Name x p) (a :: es) [] pos) (tE (zx X cl) (sCall gg fa)) := by
  obtain ⟨f, fd, F, hm, hk, hb, _⟩ := C.ex
  exact pe_w (pe_call F (hr.mono hkj) hg hm hk hb .nil pass0 ha hdb he hpl) fun _ _ _ hh => sCall_rd C.ok hh
end
section
variable {P : Program} {w : World} {K : PySem.W.Frag} {mg : Str → Option Value} {base : Heap} {cl : Str → Option Addr}
theorem ca_def {x : Str} {st : Stmt} {f : Addr} {fd : FuncData} {N ps : List Str} {k : Nat} {g : List TD → Option TD} {B : FS} (D : Df K mg x st f fd) (S : FnScope N ps (defScope st)) (har : ∀ rs r, g rs = some r → rs.length = ps.length)
    (hok : ∀ rs r, g rs = some r → okT r.1 = true)
    (hbi : Binds K fd ps []) (hbk : ∀ (s : Shared) (us : List Value), us.length = ps.length → BindsTo s fd ⟨[], ps.zip us⟩ (ps.zip us))
    (hb : ∀ (cdv : Value) (A : Around) (outer : List Env) (s : Shared) (H : Hp) (E : XK), Room k (A.deeper (PyProof.Rows.envOfC x (defScope st) s.heap.objs.size f cdv)) → XS (cxOf CX0 P w K mg base N x (defScope st) f cdv A outer s H E).nox →
      PSs (cxOf CX0 P w K mg base N x (defScope st) f cdv A outer s H E).nox (defBody st) (tS ⟨K, cl⟩ B))
    (hsem : ∀ rs r, rs.all (fun r => okT r.1) = true → g rs = some r → (B (env0 N.length rs)).bind fin = some r) : Ca P w K mg base cl (k + 1) x ps g :=
  ⟨⟨f, fd, ok_def D.fn S har hb hsem, D.gm, D.fn.kp, hbi, hbk⟩, hok⟩
/-- how keywords bind: h is «fun _ _ _ _ _ _ us hl => match us, hl with | [_, _], _ => rfl» -/
theorem kb_of {x qual : Str} {st : Stmt} {f : Addr} {fd : FuncData} {ps : List Str} (F : Fun K x qual st f fd)
    (h : ∀ (kV doc pm : Value) (an : Option Addr) (cdv ct : Value) (us : List Value), us.length = ps.length → bindArgs (PySem.W.fnOf x qual (defArgs st) (defBody st) (defScope st) .none kV doc pm an cdv ct) ⟨[], ps.zip us⟩ = pure (ps.zip us)) :
    ∀ (s : Shared) (us : List Value), us.length = ps.length → BindsTo s fd ⟨[], ps.zip us⟩ (ps.zip us) := by
  obtain ⟨oc, od, kV, doc, pm, an, cdv, ct, osl, rfl, lk, hcd⟩ := F.ex
  exact fun s us hl => .of_eq (h kV doc pm an cdv ct us hl)
end
def LawOk (ns : List Int) : Prop := ns.length ≤ 63 ∧ ∀ z ∈ ns, Builtin.Int.intBits z ≤ 1048576
end Vf
namespace Vf
open PySem L2
/-! what the simplifier may use: each worth at data that are known -/
section
variable {t u : Tg} {i j : Int} {x y z : Str} {b k : Bool} {xs ys ds : List D} {d : D} {e env : Ev} {n : Nat} {f g : FE} {A B : FS} {r : TD} {rs : List TD}
@[simp] theorem nm_int : nm (t, .int i) = (.N, .int i) := rfl
@[simp] theorem nm_str : nm (t, .str x) = (.N, .str x) := rfl
@[simp] theorem nm_bl : nm (t, .bl b) = (.N, .bl b) := rfl
@[simp] theorem nm_non : nm (t, .non) = (.N, .non) := rfl
@[simp] theorem nm_lst : nm (t, .lst xs) = (t, .lst xs) := rfl
@[simp] theorem nm_scr : nm (t, .scr xs) = (t, .scr xs) := rfl
@[simp] theorem nm_tup : nm (t, .tup xs) = (t, .tup xs) := rfl
@[simp] theorem el_N : el .N = .N := rfl
@[simp] theorem el_B : el .B = .B := rfl
@[simp] theorem el_T : el .T = .T := rfl
@[simp] theorem el_O : el .O = .N := rfl
@[simp] theorem mt2_NN : mt2 .N .N = .N := rfl
@[simp] theorem mt2_NB : mt2 .N .B = .B := rfl
@[simp] theorem mt2_BN : mt2 .B .N = .B := rfl
@[simp] theorem mt2_BB : mt2 .B .B = .B := rfl
@[simp] theorem nm_N : nm (.N, d) = (.N, d) := by cases d <;> rfl
@[simp] theorem dn_N : dn (.N, d) = (.N, d) := rfl
@[simp] theorem dn_B : dn (.B, d) = nm (.B, d) := rfl
@[simp] theorem dn_T : dn (.T, d) = nm (.B, d) := rfl
@[simp] theorem dn_O : dn (.O, d) = nm (.B, d) := rfl
@[simp] theorem up_N : up (.N, d) = (.N, d) := rfl
@[simp] theorem up_B : up (.B, d) = nm (.T, d) := rfl
@[simp] theorem okT_N : okT .N = true := rfl
@[simp] theorem okT_B : okT .B = true := rfl
@[simp] theorem fin_rtN : fin (.rt (.N, d)) = some (.N, d) := rfl
@[simp] theorem fin_rtB : fin (.rt (.B, d)) = some (.B, d) := rfl
@[simp] theorem fin_rtO : fin (.rt (.O, d)) = some (.N, d) := rfl
@[simp] theorem fin_nx : fin (.nx e) = some (.N, .non) := rfl
@[simp] theorem thenO_nx : thenO (.nx e) B = B e := rfl
@[simp] theorem thenO_rt : thenO (.rt r) B = some (.rt r) := rfl
@[simp] theorem thenO_bk : thenO (.bk e) B = some (.bk e) := rfl
@[simp] theorem thenO_ct : thenO (.ct e) B = some (.ct e) := rfl
@[simp] theorem asB_bl : asB (t, .bl b) = some b := rfl
@[simp] theorem tru_bl : tru (t, .bl b) = some b := rfl
@[simp] theorem tru_int : tru (t, .int i) = some (i != 0) := rfl
@[simp] theorem tru_non : tru (t, .non) = some false := rfl
@[simp] theorem tru_lst : tru (t, .lst xs) = some (!xs.isEmpty) := rfl
@[simp] theorem tru_tup : tru (t, .tup xs) = some (!xs.isEmpty) := rfl
@[simp] theorem tru_scr : tru (t, .scr xs) = some (!xs.isEmpty) := rfl
@[simp] theorem oAdd_int : oAdd (t, .int i) (u, .int j) = some (.N, .int (i + j)) := rfl
@[simp] theorem oSub_int : oSub (t, .int i) (u, .int j) = some (.N, .int (i - j)) := rfl
theorem oMul_int (h : bitsOk i j = true) : oMul (t, .int i) (u, .int j) = some (.N, .int (i * j)) := cif_pos h
theorem oMul_lst (h : i.natAbs ≤ lim ∧ xs.length * i.toNat ≤ lim) : oMul (t, .lst xs) (u, .int i) = some (el t, .lst (List.replicate i.toNat xs).flatten) := cif_pos h
theorem oFd_int (h : 0 < j ∧ j < 18446744073709551616) : oFd (t, .int i) (u, .int j) = some (.N, .int (i / j)) := cif_pos h
theorem oMod_int (h : 0 < j) : oMod (t, .int i) (u, .int j) = some (.N, .int (i % j)) := cif_pos h
theorem oPow_int (h : 0 ≤ j ∧ j ≤ 1000000 ∧ i.natAbs < 18446744073709551616) : oPow (t, .int i) (u, .int j) = some (.N, .int (i ^ j.toNat)) := cif_pos h
@[simp] theorem oNeg_int : oNeg (t, .int i) = some (.N, .int (-i)) := rfl
@[simp] theorem eqD_int : eqD (.int i) (.int j) = some (decide (i = j)) := rfl
@[simp] theorem eqD_str : eqD (.str x) (.str y) = some (decide (x = y)) := rfl
@[simp] theorem eqD_bl : eqD (.bl b) (.bl k) = some (decide (b = k)) := rfl
@[simp] theorem oEq_d : oEq (t, d) r = (eqD d r.2).map fun k => (.N, .bl k) := rfl
@[simp] theorem oNe_d : oNe (t, d) r = (eqD d r.2).map fun k => (.N, .bl (!k)) := rfl
@[simp] theorem oLt_int : oLt (t, .int i) (u, .int j) = some (.N, .bl (decide (i < j))) := by show some (Tg.N, D.bl (cdec (i < j))) = _; rw [cdec_eq]
@[simp] theorem oLe_int : oLe (t, .int i) (u, .int j) = some (.N, .bl (decide (i ≤ j))) := by show some (Tg.N, D.bl (cdec (i ≤ j))) = _; rw [cdec_eq]
@[simp] theorem oGt_int : oGt (t, .int i) (u, .int j) = some (.N, .bl (decide (j < i))) := by show some (Tg.N, D.bl (cdec (j < i))) = _; rw [cdec_eq]
@[simp] theorem oGe_int : oGe (t, .int i) (u, .int j) = some (.N, .bl (decide (j ≤ i))) := by show some (Tg.N, D.bl (cdec (j ≤ i))) = _; rw [cdec_eq]
@[simp] theorem oIs_bl : oIs (t, .bl b) (u, .bl k) = some (.N, .bl (decide (b = k))) := rfl
@[simp] theorem oIsN_bl : oIsN (t, .bl b) (u, .bl k) = some (.N, .bl (!decide (b = k))) := rfl
@[simp] theorem oIs_nn : oIs (t, .non) (u, .non) = some (.N, .bl true) := rfl
@[simp] theorem oIsN_nn : oIsN (t, .non) (u, .non) = some (.N, .bl false) := rfl
@[simp] theorem oIs_in : oIs (t, .int i) (u, .non) = some (.N, .bl false) := rfl
@[simp] theorem oIsN_in : oIsN (t, .int i) (u, .non) = some (.N, .bl true) := rfl
@[simp] theorem oIs_sn : oIs (t, .str x) (u, .non) = some (.N, .bl false) := rfl
@[simp] theorem oIsN_sn : oIsN (t, .str x) (u, .non) = some (.N, .bl true) := rfl
@[simp] theorem oIs_ln : oIs (t, .lst xs) (u, .non) = some (.N, .bl false) := rfl
@[simp] theorem oIsN_ln : oIsN (t, .lst xs) (u, .non) = some (.N, .bl true) := rfl
@[simp] theorem oIs_tn : oIs (t, .tup xs) (u, .non) = some (.N, .bl false) := rfl
@[simp] theorem oIsN_tn : oIsN (t, .tup xs) (u, .non) = some (.N, .bl true) := rfl
theorem oIx_lst (h : atI xs i = some d) : oIx (t, .lst xs) (u, .int i) = some (nm (el t, d)) := by show (atI xs i).map _ = _; rw [h]; rfl
theorem oIx_scr (h : atI xs i = some d) : oIx (t, .scr xs) (u, .int i) = some (nm (el t, d)) := by show (atI xs i).map _ = _; rw [h]; rfl
theorem oIn_lst (h : (isS d && ds.all isS) = true) : oIn (t, d) (u, .lst ds) = some (.N, .bl (ds.any fun y => eqS y d)) := by
  show ((if isS d && ds.all isS then some (ds.any fun y => eqS y d) else none : Option Bool).map fun k => (Tg.N, D.bl k)) = _
  rw [if_pos h]; rfl
@[simp] theorem lenB_lst : lenB [(t, .lst xs)] = some (.N, .int xs.length) := rfl
@[simp] theorem lenB_scr : lenB [(t, .scr xs)] = some (.N, .int xs.length) := rfl
@[simp] theorem lenB_tup : lenB [(t, .tup xs)] = some (.N, .int xs.length) := rfl
@[simp] theorem intB_int : intB [(t, .int i)] = some (.N, .int i) := rfl
@[simp] theorem intB_bl : intB [(t, .bl b)] = some (.N, .int (if b then 1 else 0)) := rfl
@[simp] theorem tupB_lst : tupB [(t, .lst xs)] = some (el t, .tup xs) := rfl
@[simp] theorem tupB_scr : tupB [(t, .scr xs)] = some (el t, .tup xs) := rfl
@[simp] theorem tupB_tup : tupB [(t, .tup xs)] = some (t, .tup xs) := rfl
@[simp] theorem listB_lst : listB [(t, .lst xs)] = some (el t, xs) := rfl
@[simp] theorem listB_scr : listB [(t, .scr xs)] = some (el t, xs) := rfl
@[simp] theorem listB_tup : listB [(t, .tup xs)] = some (el t, xs) := rfl
@[simp] theorem isiD_int {T : String} : isiD (.int i) T = kitB "int" T := rfl
@[simp] theorem isiD_bl {T : String} : isiD (.bl b) T = kitB "bool" T := rfl
@[simp] theorem isiD_str {T : String} : isiD (.str x) T = kitB "str" T := rfl
@[simp] theorem isiD_non {T : String} : isiD .non T = kitB "NoneType" T := rfl
@[simp] theorem isiD_lst {T : String} : isiD (.lst xs) T = kitB "list" T := rfl
@[simp] theorem isiD_scr {T : String} : isiD (.scr xs) T = kitB "list" T := rfl
@[simp] theorem isiD_tup {T : String} : isiD (.tup xs) T = kitB "tuple" T := rfl
@[simp] theorem itemsOf_Nl : itemsOf (.N, .lst xs) = some (xs.map fun d => nm (.N, d)) := rfl
@[simp] theorem itemsOf_Bl : itemsOf (.B, .lst xs) = some (xs.map fun d => nm (.B, d)) := rfl
@[simp] theorem itemsOf_Ns : itemsOf (.N, .scr xs) = some (xs.map fun d => nm (.N, d)) := rfl
@[simp] theorem itemsOf_Bs : itemsOf (.B, .scr xs) = some (xs.map fun d => nm (.B, d)) := rfl
@[simp] theorem itemsOf_Nt : itemsOf (.N, .tup xs) = some (xs.map fun d => nm (.N, d)) := rfl
@[simp] theorem itemsOf_Bt : itemsOf (.B, .tup xs) = some (xs.map fun d => nm (.B, d)) := rfl
@[simp] theorem itemsR_l : itemsR (t, .lst xs) = some (xs.map fun d => nm (el t, d)) := rfl
@[simp] theorem itemsR_s : itemsR (t, .scr xs) = some (xs.map fun d => nm (el t, d)) := rfl
@[simp] theorem itemsR_t : itemsR (t, .tup xs) = some (xs.map fun d => nm (el t, d)) := rfl
@[simp] theorem signsOf_s : signsOf (t, .str z) = some (z.cps.toList.map fun c => (.N, .str ⟨#[c]⟩)) := rfl
@[simp] theorem unp_t : unp (t, .tup xs) = some (xs.map fun d => nm (el t, d)) := rfl
@[simp] theorem unp_l : unp (t, .lst xs) = some (xs.map fun d => nm (el t, d)) := rfl
@[simp] theorem setNil_nil : setNil [] env = some env := rfl
@[simp] theorem setCons_cons {s : TD → Ev → Option Ev} {l : List TD → Ev → Option Ev} : setCons s l (r :: rs) env = (s r env).bind fun e => l rs e := rfl
def setL (i : Nat) (r : TD) (l : List Sl) : Option (List Sl) := if i < l.length then (match r.1 with
  | .N => some (l.set i (.val .N r.2))
  | .B => some (l.set i (.val .B r.2))
  | _ => none) else none
@[simp] theorem setV_mk {l : List Sl} {T : Tb} : setV n r ⟨l, T⟩ = (setL n r l).map fun l' => ⟨l', T⟩ := by
  obtain ⟨t, d⟩ := r
  unfold setV setL
  by_cases h : n < l.length
  · rw [if_pos h, if_pos h]
    cases t <;> rfl
  · rw [if_neg h, if_neg h]
    rfl
@[simp] theorem put_mk {l : List Sl} {T : Tb} {x : Sl} : Ev.put ⟨l, T⟩ n x = ⟨l.set n x, T⟩ := rfl
@[simp] theorem setL_0N {s : Sl} {l : List Sl} : setL 0 (.N, d) (s :: l) = some (.val .N d :: l) := rfl
@[simp] theorem setL_0B {s : Sl} {l : List Sl} : setL 0 (.B, d) (s :: l) = some (.val .B d :: l) := rfl
@[simp] theorem setL_s {s : Sl} {l : List Sl} : setL (n + 1) r (s :: l) = (setL n r l).map fun e => s :: e := by
  obtain ⟨t, d⟩ := r
  unfold setL
  by_cases h : n < l.length
  · rw [if_pos h, if_pos (by simpa using h)]
    cases t <;> rfl
  · rw [if_neg h, if_neg (by simpa using h)]
    rfl
@[simp] theorem cell_N : cell .N = .N := rfl
@[simp] theorem cell_B : cell .B = .B := rfl
@[simp] theorem cell_T : cell .T = .T := rfl
@[simp] theorem cell_O : cell .O = .T := rfl
@[simp] theorem tagL_nil : tagL [] = .N := rfl
@[simp] theorem tagL_cons : tagL (r :: rs) = mt2 (cell r.1) (tagL rs) := rfl
theorem tagL_N : ∀ {rs : List TD}, (∀ r ∈ rs, r.1 = .N) → tagL rs = .N
  | [], _ => rfl
  | r :: rs, h => by
    rw [tagL_cons, h r List.mem_cons_self, tagL_N fun x hx => h x (List.mem_cons_of_mem _ hx)]
    rfl
@[simp] theorem sVar_0v {l : List Sl} {T : Tb} : sVar 0 ⟨.val t d :: l, T⟩ = some (nm (t, d)) := rfl
@[simp] theorem sVar_0o {l : List Sl} {T : Tb} : sVar 0 ⟨.own ds :: l, T⟩ = some (.O, .lst ds) := rfl
@[simp] theorem sVar_s {s : Sl} {l : List Sl} {T : Tb} : sVar (n + 1) ⟨s :: l, T⟩ = sVar n ⟨l, T⟩ := rfl
@[simp] theorem forL_nil {s : TD → Ev → Option Ev} : forL A s [] env = some (.nx env) := rfl
def loopK (A : FS) (s : TD → Ev → Option Ev) (rs : List TD) : Out → Option Out
  | .nx e' => forL A s rs e'
  | .ct e' => forL A s rs e'
  | .bk e' => some (.nx e')
  | .rt r => some (.rt r)
  | .rth x T => some (.rth x T)
theorem forL_cons {s : TD → Ev → Option Ev} : forL A s (r :: rs) env = (s r env).bind fun e => (A e).bind (loopK A s rs) := rfl
@[simp] theorem loopK_nx {s : TD → Ev → Option Ev} : loopK A s rs (.nx e) = forL A s rs e := rfl
@[simp] theorem loopK_ct {s : TD → Ev → Option Ev} : loopK A s rs (.ct e) = forL A s rs e := rfl
@[simp] theorem loopK_bk {s : TD → Ev → Option Ev} : loopK A s rs (.bk e) = some (.nx e) := rfl
@[simp] theorem loopK_rt {s : TD → Ev → Option Ev} : loopK A s rs (.rt r) = some (.rt r) := rfl
/-- one turn that goes on -/
theorem forL_step {s : TD → Ev → Option Ev} {e1 e2 : Ev} (h1 : s r env = some e1) (h2 : A e1 = some (.nx e2)) : forL A s (r :: rs) env = forL A s rs e2 := by
  rw [forL_cons, h1]
  show (A e1).bind _ = _
  rw [h2]
  rfl
def appR (n : Nat) (env : Ev) (ds : List D) (r : TD) : Option Out := match r.1 with
  | .N => if ds.length ≤ lim then some (.nx (env.put n (.own (ds ++ [r.2])))) else none
  | _ => none
def appK (n : Nat) (f : FE) (env : Ev) : Sl → Option Out
  | .own ds => (f env).bind (appR n env ds)
  | _ => none
@[simp] theorem sApp_eq : sApp n f env = (env.s[n]?).bind (appK n f env) := by
  unfold sApp
  cases env.s[n]? with
  | none => rfl
  | some s => cases s <;> rfl
@[simp] theorem appK_own : appK n f env (.own ds) = (f env).bind (appR n env ds) := rfl
theorem appR_N (h : ds.length ≤ lim) : appR n env ds (.N, d) = some (.nx (env.put n (.own (ds ++ [d])))) := if_pos h
def extR (n : Nat) (env : Ev) (ds : List D) (r : TD) : Option Out := match r.1, r.2 with
  | .N, .lst es => if ds.length + es.length ≤ lim then some (.nx (env.put n (.own (ds ++ es)))) else none
  | _, _ => none
def extK (n : Nat) (f : FE) (env : Ev) : Sl → Option Out
  | .own ds => (f env).bind (extR n env ds)
  | _ => none
@[simp] theorem sExt_eq : sExt n f env = (env.s[n]?).bind (extK n f env) := by
  unfold sExt
  cases env.s[n]? with
  | none => rfl
  | some s => cases s <;> rfl
@[simp] theorem extK_own : extK n f env (.own ds) = (f env).bind (extR n env ds) := rfl
def ownK (n : Nat) (env : Ev) (r : Tg × List D) : Option Out := if n < env.s.length then (match r.1 with
  | .N => some (.nx (env.put n (.own r.2)))
  | _ => none) else none
@[simp] theorem sOwn_eq {fl : FL} : sOwn n fl env = (fl env).bind (ownK n env) := rfl
@[simp] theorem ownK_N (h : n < env.s.length) : ownK n env (.N, ds) = some (.nx (env.put n (.own ds))) := if_pos h
def frzK (n : Nat) (env : Ev) : Sl → Option Out
  | .own ds => some (.nx (env.put n (.val .N (.lst ds))))
  | _ => some (.nx env)
@[simp] theorem sFrz_eq : sFrz n env = (env.s[n]?).bind (frzK n env) := by
  unfold sFrz
  cases env.s[n]? with
  | none => rfl
  | some s => cases s <;> rfl
@[simp] theorem frzK_own : frzK n env (.own ds) = some (.nx (env.put n (.val .N (.lst ds)))) := rfl
@[simp] theorem frzK_val : frzK n env (.val t d) = some (.nx env) := rfl
@[simp] theorem sR1_eq : sR1 f env = (f env).bind r1K := rfl
theorem r1K_int (h : j < 4611686018427387904 ∧ -4611686018427387904 ≤ j) : r1K (t, .int j) = some (iRng j.toNat 0) := cif_pos h
@[simp] theorem sR2_eq : sR2 f g env = (f env).bind fun r => (g env).bind fun r' => r2K r r' := rfl
def ptK (r : TD) : Option (Option Int) := match r.2 with | .int i => some (some i) | _ => none
@[simp] theorem sPt_eq : sPt f env = (f env).bind ptK := rfl
@[simp] theorem ptK_int : ptK (t, .int i) = some (some i) := rfl
theorem sSeq_nx {e2 : Ev} (h : A env = some (.nx e2)) : sSeq A B env = B e2 := by unfold sSeq; rw [h]; rfl
theorem sSeq_rt (h : A env = some (.rt r)) : sSeq A B env = some (.rt r) := by unfold sSeq; rw [h]; rfl
theorem sFor_at {fi : FI} {s : TD → Ev → Option Ev} {items : List TD} (h : fi env = some items) : sFor fi s A env = forL A s items env := by unfold sFor; rw [h]; rfl
theorem sIf_t {c : FT} (h : c env = some true) : sIf c A B env = A env := by unfold sIf; rw [h]; rfl
theorem sIf_f {c : FT} (h : c env = some false) : sIf c A B env = B env := by unfold sIf; rw [h]; rfl
@[simp] theorem slD_tup {lo hi : Option Int} : slD (t, .tup xs) lo hi = some (el t, .tup (cutD xs lo hi)) := rfl
@[simp] theorem itemsRev_Nl : itemsRev (.N, .lst xs) = some (xs.reverse.map fun d => nm (.N, d)) := rfl
@[simp] theorem itemsRev_Bl : itemsRev (.B, .lst xs) = some (xs.reverse.map fun d => nm (.B, d)) := rfl
@[simp] theorem itemsRev_Nt : itemsRev (.N, .tup xs) = some (xs.reverse.map fun d => nm (.N, d)) := rfl
@[simp] theorem itemsRev_Bt : itemsRev (.B, .tup xs) = some (xs.reverse.map fun d => nm (.B, d)) := rfl
def augK (g : Int → Int → Int) (i : Nat) (env : Ev) (a b : TD) : Option Out := match a.2, b.2 with
  | .int x, .int y => (setV i (.N, .int (g x y)) env).map .nx
  | _, _ => none
@[simp] theorem augI_eq {g : Int → Int → Int} : augI g n f env = (sVar n env).bind fun a => (f env).bind fun b => augK g n env a b := rfl
@[simp] theorem augK_int {g : Int → Int → Int} : augK g n env (t, .int i) (u, .int j) = (setV n (.N, .int (g i j)) env).map .nx := rfl
@[simp] theorem slD_lst {lo hi : Option Int} : slD (t, .lst xs) lo hi = some (el t, .lst (cutD xs lo hi)) := rfl
@[simp] theorem env0_1 {a : TD} : env0 n [a] = ⟨.val a.1 a.2 :: List.replicate (n - 1) .un, []⟩ := rfl
@[simp] theorem env0_2 {a b : TD} : env0 n [a, b] = ⟨.val a.1 a.2 :: .val b.1 b.2 :: List.replicate (n - 2) .un, []⟩ := rfl
@[simp] theorem env0_3 {a b c : TD} : env0 n [a, b, c] = ⟨.val a.1 a.2 :: .val b.1 b.2 :: .val c.1 c.2 :: List.replicate (n - 3) .un, []⟩ := rfl
@[simp] theorem env0_0 : env0 n [] = ⟨List.replicate n .un, []⟩ := rfl
@[simp] theorem env0_4 {a b c d : TD} : env0 n [a, b, c, d] = ⟨.val a.1 a.2 :: .val b.1 b.2 :: .val c.1 c.2 :: .val d.1 d.2 :: List.replicate (n - 4) .un, []⟩ := rfl
end
end Vf
namespace Lw
open PySem L2 Vf
/-! what is handed back may be handed on -/
def gN (h : List TD → Option D) : List TD → Option TD := fun rs => (h rs).map fun d => (.N, d)
theorem gN_ok {h : List TD → Option D} (rs : List TD) (r : TD) (e : gN h rs = some r) : okT r.1 = true := by
  obtain ⟨d, _, rfl⟩ := Option.map_eq_some_iff.mp e
  rfl
theorem gN_len {h : List TD → Option D} {n : Nat} (hl : ∀ rs d, h rs = some d → rs.length = n) (rs : List TD) (r : TD) (e : gN h rs = some r) : rs.length = n := by
  obtain ⟨d, q, _⟩ := Option.map_eq_some_iff.mp e
  exact hl rs d q
theorem gN_sem {h : List TD → Option D} {F : FS} {n : Nat} (hs : ∀ rs d, rs.all (fun r => okT r.1) = true → h rs = some d → (F (env0 n rs)).bind fin = some (.N, d)) (rs : List TD) (r : TD) (ha : rs.all (fun r => okT r.1) = true) (e : gN h rs = some r) : (F (env0 n rs)).bind fin = some r := by
  obtain ⟨d, q, rfl⟩ := Option.map_eq_some_iff.mp e
  exact hs rs d ha q
theorem gN_of {h : List TD → Option D} {rs : List TD} {d : D} (e : h rs = some d) : gN h rs = some (.N, d) := by
  unfold gN
  rw [e]
  rfl
/-! lists of ints -/
def intsOf : List D → Option (List Int)
  | [] => some []
  | .int i :: r => (intsOf r).map (i :: ·)
  | _ :: _ => none
theorem intsOf_map : ∀ ns : List Int, intsOf (ns.map D.int) = some ns
  | [] => rfl
  | n :: ns => by
    rw [List.map_cons]
    show (intsOf (ns.map D.int)).map (n :: ·) = _
    rw [intsOf_map ns]
    rfl
theorem intsOf_some : ∀ {ds : List D} {ns : List Int}, intsOf ds = some ns → ds = ns.map D.int
  | [], ns, h => by cases h; rfl
  | .int i :: r, ns, h => by
    obtain ⟨ms, h1, rfl⟩ := Option.map_eq_some_iff.mp h
    rw [List.map_cons, intsOf_some h1]
  | .non :: _, _, h => by cases h
  | .bl _ :: _, _, h => by cases h
  | .str _ :: _, _, h => by cases h
  | .lst _ :: _, _, h => by cases h
  | .scr _ :: _, _, h => by cases h
  | .tup _ :: _, _, h => by cases h
  | .ins _ _ _ :: _, _, h => by cases h
  | .dic _ _ :: _, _, h => by cases h
/-! sizes of ints -/
theorem bits_of {i : Int} {n : Nat} (h : i.natAbs < 2 ^ n) : Builtin.Int.intBits i ≤ n := PySem.intBits_le_iff.mpr h
theorem bits_ok {i j : Int} {m n : Nat} (hi : Builtin.Int.intBits i ≤ m) (hj : Builtin.Int.intBits j ≤ n) (h : m + n ≤ 134217728) : bitsOk i j = true := decide_eq_true (by omega)
theorem bits64 {i : Int} (h1 : -18446744073709551616 < i) (h2 : i < 18446744073709551616) : Builtin.Int.intBits i ≤ 64 := bits_of (by omega)
theorem bits_sm {i j : Int} (h1 : -18446744073709551616 < i) (h2 : i < 18446744073709551616) (h3 : -18446744073709551616 < j) (h4 : j < 18446744073709551616) : bitsOk i j = true := bits_ok (bits64 h1 h2) (bits64 h3 h4) (by decide)
theorem bits_smr {i j : Int} {m : Nat} (hi : Builtin.Int.intBits i ≤ m) (hm : m ≤ 134217000) (h3 : -18446744073709551616 < j) (h4 : j < 18446744073709551616) : bitsOk i j = true := bits_ok hi (bits64 h3 h4) (by omega)
/-! lookups -/
theorem atI_map {α : Type} {f : α → D} {xs : List α} {j : Nat} (h : j < xs.length) : atI (xs.map f) (j : Int) = some (f xs[j]) := by
  refine atI_nat ?_
  rw [List.getElem?_map, List.getElem?_eq_getElem h]
  rfl
end Lw
namespace Lw
open PySem L2 Vf
@[simp] theorem kit1 : kitB "int" "int" = some true := by decide +kernel
@[simp] theorem kit2 : kitB "int" "bool" = some false := by decide +kernel
@[simp] theorem kit3 : kitB "bool" "int" = some true := by decide +kernel
@[simp] theorem kit4 : kitB "bool" "bool" = some true := by decide +kernel
@[simp] theorem kit5 : kitB "str" "int" = some false := by decide +kernel
@[simp] theorem kit6 : kitB "str" "bool" = some false := by decide +kernel
@[simp] theorem kit7 : kitB "str" "str" = some true := by decide +kernel
@[simp] theorem kit8 : kitB "NoneType" "int" = some false := by decide +kernel
@[simp] theorem kit9 : kitB "NoneType" "bool" = some false := by decide +kernel
@[simp] theorem kit10 : kitB "tuple" "tuple" = some true := by decide +kernel
@[simp] theorem kit11 : kitB "list" "tuple" = some false := by decide +kernel
@[simp] theorem kit12 : kitB "list" "list" = some true := by decide +kernel
@[simp] theorem kit13 : kitB "tuple" "list" = some false := by decide +kernel
@[simp] theorem kit14 : kitB "int" "tuple" = some false := by decide +kernel
@[simp] theorem kit15 : kitB "str" "tuple" = some false := by decide +kernel
@[simp] theorem kit16 : kitB "int" "str" = some false := by decide +kernel
@[simp] theorem kit17 : kitB "NoneType" "tuple" = some false := by decide +kernel
@[simp] theorem kit18 : kitB "NoneType" "str" = some false := by decide +kernel
@[simp] theorem kit19 : kitB "bool" "str" = some false := by decide +kernel
@[simp] theorem kit20 : kitB "tuple" "str" = some false := by decide +kernel
@[simp] theorem kit21 : kitB "list" "str" = some false := by decide +kernel
@[simp] theorem kit22 : kitB "tuple" "int" = some false := by decide +kernel
@[simp] theorem kit23 : kitB "list" "int" = some false := by decide +kernel
/-! _law_whole -/
def h_law_whole (rs : List TD) : Option D := match rs with
  | [(_, .int _)] => some (.bl true)
  | [(_, .bl _)] => some (.bl false)
  | [(_, .str _)] => some (.bl false)
  | [(_, .non)] => some (.bl false)
  | _ => none
abbrev g_law_whole := gN h_law_whole
abbrev N_law_whole : List Str := ["value"]
noncomputable def F_law_whole : FS := (sRet (sAndV (sIsi "int" (sVar 0)) (sNotV (sIsi "bool" (sVar 0)))))
theorem sem_law_whole : ∀ rs r, rs.all (fun r => okT r.1) = true → g_law_whole rs = some r → (F_law_whole (env0 N_law_whole.length rs)).bind fin = some r := gN_sem (by
  intro rs d ha h
  unfold h_law_whole at h
  split at h <;> cases h <;> simp [F_law_whole])
theorem len_law_whole : ∀ rs r, g_law_whole rs = some r → rs.length = 1 := gN_len (by
  intro rs d h
  unfold h_law_whole at h
  split at h <;> cases h <;> rfl)
theorem okt_law_whole : ∀ rs r, g_law_whole rs = some r → okT r.1 = true := gN_ok
/-! _law_cell -/
def seedF (s : Int) (ns : List Int) : Int := ns.foldl (fun s c => (s * 31 + c % 1000003) % 1000003) s
def seedM (ns : List Int) : Int := seedF 17 ns
def cellM (ns : List Int) (k : Nat) : Int := if h : k < ns.length then ns[k] else ((seedM ns + 7) * ((k : Int) + 3) * 69621) % 2147483647
theorem seedM_bd : ∀ (ns : List Int), 0 ≤ seedM ns ∧ seedM ns < 1000003 := by
  have aux : ∀ (ns : List Int) (s : Int), 0 ≤ s ∧ s < 1000003 → 0 ≤ ns.foldl (fun s c => (s * 31 + c % 1000003) % 1000003) s ∧ ns.foldl (fun s c => (s * 31 + c % 1000003) % 1000003) s < 1000003 := by
    intro ns
    induction ns with
    | nil => intro s h; exact h
    | cons n ns ih =>
      intro s h
      rw [List.foldl_cons]
      exact ih _ (by omega)
  exact fun ns => aux ns 17 (by decide)
open Classical in
noncomputable def h_law_cell (rs : List TD) : Option D := match rs with
  | [(_, .scr ds), (_, .int k)] => (intsOf ds).bind fun ns => if LawOk ns ∧ 0 ≤ k ∧ k < 1000000 then some (.int (cellM ns k.toNat)) else none
  | _ => none
noncomputable abbrev g_law_cell := gN h_law_cell
theorem g_law_cell_at {t u : Tg} {ns : List Int} {k : Nat} (h : LawOk ns) (hk : k < 1000000) : g_law_cell [(t, .scr (ns.map D.int)), (u, .int (k : Int))] = some (.N, .int (cellM ns k)) := by
  refine gN_of ?_
  unfold h_law_cell
  simp only [intsOf_map, Option.bind_some]
  rw [if_pos ⟨h, by omega, by omega⟩]
  rfl
abbrev N_law_cell : List Str := ["script", "k", "seed", "cell"]
noncomputable def F_law_cell : FS := (sSeq (sIf (sBl (sOp oLt (sVar 1) (sB lenB (sCons (sVar 0) sNil))))
  (sRet (sOp oIx (sVar 0) (sVar 1)))
  sNx) (sSeq (sSet 2 (sLit (.int 17))) (sSeq (sFor (sIt (sVar 0)) (setV 3)
  (sSet 2 (sOp oMod (sB intB (sCons (sOp oAdd (sOp oMul (sVar 2) (sLit (.int 31))) (sOp oMod (sB intB (sCons (sVar 3) sNil)) (sLit (.int 1000003)))) sNil)) (sLit (.int 1000003))))) (sRet (sOp oMod (sB intB (sCons (sOp oMul (sOp oMul (sOp oAdd (sVar 2) (sLit (.int 7))) (sOp oAdd (sVar 1) (sLit (.int 3)))) (sLit (.int 69621))) sNil)) (sLit (.int 2147483647)))))))
theorem cell_loop {A : FS} {a b : Sl} (hA : ∀ (s c : Int), 0 ≤ s → s < 1000003 → A ⟨[a, b, .val .N (.int s), .val .N (.int c)], []⟩ = some (.nx ⟨[a, b, .val .N (.int ((s * 31 + c % 1000003) % 1000003)), .val .N (.int c)], []⟩)) :
    ∀ (ns : List Int) (s : Int) (c : Sl), 0 ≤ s → s < 1000003 → ∃ c', forL A (setV 3) (ns.map fun n => (.N, D.int n)) ⟨[a, b, .val .N (.int s), c], []⟩ = some (.nx ⟨[a, b, .val .N (.int (seedF s ns)), c'], []⟩)
  | [], s, c, h0, h1 => ⟨c, rfl⟩
  | n :: ns, s, c, h0, h1 => by
    obtain ⟨c', h⟩ := cell_loop hA ns ((s * 31 + n % 1000003) % 1000003) (.val .N (.int n)) (by omega) (by omega)
    refine ⟨c', ?_⟩
    show _ = some (Out.nx ⟨[a, b, .val .N (.int (seedF ((s * 31 + n % 1000003) % 1000003) ns)), c'], []⟩)
    rw [List.map_cons, ← h]
    show ((setV 3 (.N, .int n) ⟨[a, b, .val .N (.int s), c], []⟩).bind fun e => (A e).bind _) = _
    have : setV 3 (.N, D.int n) ⟨[a, b, .val .N (.int s), c], []⟩ = some ⟨[a, b, .val .N (.int s), .val .N (.int n)], []⟩ := by simp
    rw [this]
    show (A ⟨[a, b, .val .N (.int s), .val .N (.int n)], []⟩).bind _ = _
    rw [hA s n h0 h1]
    rfl
theorem sem_law_cell : ∀ rs r, rs.all (fun r => okT r.1) = true → g_law_cell rs = some r → (F_law_cell (env0 N_law_cell.length rs)).bind fin = some r := gN_sem (by
  intro rs d ha h
  unfold h_law_cell at h
  split at h
  · rename_i t ds u k
    obtain ⟨ns, h1, h2⟩ := Option.bind_eq_some_iff.mp h
    split at h2
    · rename_i hc
      cases h2
      obtain ⟨hl, hk0, hk1⟩ := hc
      have e := intsOf_some h1
      subst e
      obtain ⟨j, rfl⟩ : ∃ j : Nat, k = (j : Int) := ⟨k.toNat, by omega⟩
      by_cases hj : j < ns.length
      · have h3 : atI (ns.map D.int) (j : Int) = some (.int ns[j]) := atI_map hj
        simp [F_law_cell, cellM, hj, oIx_scr h3]
      · obtain ⟨s0, s1⟩ := seedM_bd ns
        obtain ⟨c', hh⟩ := cell_loop (a := .val t (.scr (ns.map D.int))) (b := .val u (.int (j : Int))) (A := (sSet 2 (sOp oMod (sB intB (sCons (sOp oAdd (sOp oMul (sVar 2) (sLit (.int 31))) (sOp oMod (sB intB (sCons (sVar 3) sNil)) (sLit (.int 1000003)))) sNil)) (sLit (.int 1000003)))))
          (fun s c h0 h1 => by
            have hb : bitsOk s 31 = true := bits_sm (by omega) (by omega) (by decide) (by decide)
            simp [oMul_int hb, oMod_int]) ns 17 .un (by decide) (by decide)
        have b1 : bitsOk (seedM ns + 7) ((j : Int) + 3) = true := bits_sm (by omega) (by omega) (by omega) (by omega)
        have b2 : bitsOk ((seedM ns + 7) * ((j : Int) + 3)) 69621 = true := by
          refine bits_smr (m := 128) ?_ (by decide) (by decide) (by decide)
          exact Nat.le_trans (PySem.intBits_mul_le (bits64 (by omega) (by omega)) (bits64 (by omega) (by omega))) (by decide)
        have hj' : ¬ ((j : Int) < (ns.length : Int)) := by omega
        simp only [List.all_cons, Bool.and_eq_true] at ha
        have hi : itemsOf (t, .scr (ns.map D.int)) = some (ns.map fun n => (Tg.N, D.int n)) := by
          cases t <;> first | exact Bool.noConfusion ha.1 | (simp [List.map_map, Function.comp_def])
        have hc : cellM ns j = (seedM ns + 7) * ((j : Int) + 3) * 69621 % 2147483647 := dif_neg hj
        have hh : forL _ _ _ _ = some (Out.nx ⟨[_, _, .val .N (.int (seedM ns)), c'], []⟩) := hh
        simp [F_law_cell, hj', hi, hh, oMul_int b1, oMul_int b2, oMod_int, hc]
    · cases h2
  · cases h)
theorem len_law_cell : ∀ rs r, g_law_cell rs = some r → rs.length = 2 := gN_len (by intro rs d h; unfold h_law_cell at h; split at h <;> first | rfl | cases h)
theorem okt_law_cell : ∀ rs r, g_law_cell rs = some r → okT r.1 = true := gN_ok
theorem cif_some {α : Type} {p : Prop} {a : Option α} {b : α} (h : cif p a none = some b) : p ∧ a = some b := by
  unfold cif at h
  split at h
  · exact ⟨by assumption, h⟩
  · cases h
/-! _law_digits -/
def bigD : Int → List Int → List Int
  | _, [] => []
  | r, s :: ss => r % s :: bigD (r / s) ss
def restD : Int → List Int → Int
  | r, [] => r
  | r, s :: ss => restD (r / s) ss
def seedD (seed k : Int) : Int := (seed * 48271 + 974711 * k + 12345) % 2147483647
def twiceD (seed : Int) : Int := seed * (seed / 65537 + 3) % 2147483629
def smallD : Int → Int → List Int → List Int
  | _, _, [] => []
  | seed, k, s :: ss => twiceD (seedD seed k) / 19 % s :: smallD (seedD seed k) (k + 1) ss
def digitsM (c : Int) (ss : List Int) : List Int := if c ≥ 1000000000000000000 then bigD (c - 1000000000000000000) ss else smallD (c % 2147483629) 0 ss
def SizesOk (ss : List Int) : Prop := (∀ s ∈ ss, 0 < s ∧ s < 4611686018427387904) ∧ ss.length ≤ 10000
theorem bigD_get : ∀ (ss : List Int) (r : Int) (k : Nat) (hk : k < ss.length), (∀ s ∈ ss, 0 < s) → ∃ d, (bigD r ss)[k]? = some d ∧ 0 ≤ d ∧ d < ss[k]
  | s :: ss, r, 0, _, h => ⟨r % s, rfl, Int.emod_nonneg _ (by have := h s List.mem_cons_self; omega), Int.emod_lt_of_pos _ (h s List.mem_cons_self)⟩
  | s :: ss, r, k + 1, hk, h => by
    obtain ⟨d, e, h1⟩ := bigD_get ss (r / s) k (by simpa using hk) fun x hx => h x (List.mem_cons_of_mem _ hx)
    exact ⟨d, by simpa [bigD] using e, by simpa using h1⟩
theorem smallD_get : ∀ (ss : List Int) (r j : Int) (k : Nat) (hk : k < ss.length), (∀ s ∈ ss, 0 < s) → ∃ d, (smallD r j ss)[k]? = some d ∧ 0 ≤ d ∧ d < ss[k]
  | s :: ss, r, j, 0, _, h => ⟨_, rfl, Int.emod_nonneg _ (by have := h s List.mem_cons_self; omega), Int.emod_lt_of_pos _ (h s List.mem_cons_self)⟩
  | s :: ss, r, j, k + 1, hk, h => by
    obtain ⟨d, e, h1⟩ := smallD_get ss (seedD r j) (j + 1) k (by simpa using hk) fun x hx => h x (List.mem_cons_of_mem _ hx)
    exact ⟨d, by simpa [smallD] using e, by simpa using h1⟩
theorem bigD_len : ∀ (ss : List Int) (r : Int), (bigD r ss).length = ss.length
  | [], _ => rfl
  | _ :: ss, r => congrArg Nat.succ (bigD_len ss _)
theorem smallD_len : ∀ (ss : List Int) (r j : Int), (smallD r j ss).length = ss.length
  | [], _, _ => rfl
  | _ :: ss, r, j => congrArg Nat.succ (smallD_len ss _ _)
theorem digitsM_len (c : Int) (ss : List Int) : (digitsM c ss).length = ss.length := by
  unfold digitsM
  split
  · exact bigD_len ss _
  · exact smallD_len ss _ _
/-- each digit lies below its size -/
theorem digitsM_get {c : Int} {ss : List Int} (h : SizesOk ss) (k : Nat) (hk : k < ss.length) : ∃ d, (digitsM c ss)[k]? = some d ∧ 0 ≤ d ∧ d < ss[k] := by
  unfold digitsM
  split
  · exact bigD_get ss _ k hk fun s hs => (h.1 s hs).1
  · exact smallD_get ss _ _ k hk fun s hs => (h.1 s hs).1
noncomputable def h_law_digits (rs : List TD) : Option D := match rs with
  | [(_, .int c), (_, .lst ds)] => (intsOf ds).bind fun ss => cif (SizesOk ss) (some (.lst ((digitsM c ss).map D.int))) none
  | _ => none
noncomputable abbrev g_law_digits := gN h_law_digits
theorem g_law_digits_at {t u : Tg} {c : Int} {ss : List Int} (h : SizesOk ss) : g_law_digits [(t, .int c), (u, .lst (ss.map D.int))] = some (.N, .lst ((digitsM c ss).map D.int)) := by
  refine gN_of ?_
  unfold h_law_digits
  simp only [intsOf_map, Option.bind_some]
  exact cif_pos h
theorem len_law_digits : ∀ rs r, g_law_digits rs = some r → rs.length = 2 := gN_len (by intro rs d h; unfold h_law_digits at h; split at h <;> first | rfl | cases h)
theorem okt_law_digits : ∀ rs r, g_law_digits rs = some r → okT r.1 = true := gN_ok
abbrev N_law_digits : List Str := ["cell", "sizes", "row", "rest", "size", "seed", "k", "twice"]
noncomputable def B_law_digits_1 : FS := (sSeq (sApp 2 (sOp oMod (sB intB (sCons (sVar 3) sNil)) (sVar 4))) (sSet 3 (sOp oFd (sB intB (sCons (sVar 3) sNil)) (sVar 4))))
noncomputable def B_law_digits_2 : FS := (sSeq (sSet 5 (sOp oMod (sB intB (sCons (sOp oAdd (sOp oAdd (sOp oMul (sVar 5) (sLit (.int 48271))) (sOp oMul (sLit (.int 974711)) (sVar 6))) (sLit (.int 12345))) sNil)) (sLit (.int 2147483647)))) (sSeq (sSet 7 (sOp oMod (sB intB (sCons (sOp oMul (sVar 5) (sOp oAdd (sOp oFd (sVar 5) (sLit (.int 65537))) (sLit (.int 3)))) sNil)) (sLit (.int 2147483629)))) (sApp 2 (sOp oMod (sOp oFd (sVar 7) (sLit (.int 19))) (sOp oIx (sVar 1) (sVar 6))))))
noncomputable def F_law_digits : FS := (sSeq (sOwn 2 (sLd sNil)) (sSeq (sSet 3 (sB intB (sCons (sVar 0) sNil))) (sSeq (sIf (sBl (sOp oGe (sVar 3) (sOp oPow (sLit (.int 10)) (sLit (.int 18)))))
  (sSeq (sSet 3 (sOp oSub (sVar 3) (sOp oPow (sLit (.int 10)) (sLit (.int 18))))) (sSeq (sFor (sIt (sVar 1)) (setV 4)
  B_law_digits_1) (sRet (sVar 2))))
  sNx) (sSeq (sSet 5 (sOp oMod (sB intB (sCons (sVar 3) sNil)) (sLit (.int 2147483629)))) (sSeq (sFor (sR1 (sB lenB (sCons (sVar 1) sNil))) (setV 6)
  B_law_digits_2) (sRet (sVar 2)))))))
theorem dg_loop1 (C S s5 s6 s7 : Sl) : ∀ (ss : List Int) (r : Int) (row : List Int) (s4 : Sl), (∀ s ∈ ss, 0 < s ∧ s < 4611686018427387904) → row.length + ss.length ≤ lim →
    ∃ s4', forL B_law_digits_1 (setV 4) (ss.map fun s => (Tg.N, D.int s)) ⟨[C, S, .own (row.map D.int), .val .N (.int r), s4, s5, s6, s7], []⟩ = some (.nx ⟨[C, S, .own ((row ++ bigD r ss).map D.int), .val .N (.int (restD r ss)), s4', s5, s6, s7], []⟩)
  | [], r, row, s4, _, _ => ⟨s4, by simp [bigD, restD]⟩
  | s :: ss, r, row, s4, h, hl => by
    rw [List.length_cons] at hl
    obtain ⟨h0, h1⟩ := h s List.mem_cons_self
    obtain ⟨s4', e⟩ := dg_loop1 C S s5 s6 s7 ss (r / s) (row ++ [r % s]) (.val .N (.int s)) (fun x hx => h x (List.mem_cons_of_mem _ hx)) (by simp; omega)
    refine ⟨s4', ?_⟩
    have ha : (row.map D.int).length ≤ lim := by simp; omega
    have e2 : B_law_digits_1 ⟨[C, S, .own (row.map D.int), .val .N (.int r), .val .N (.int s), s5, s6, s7], []⟩ = some (.nx ⟨[C, S, .own ((row ++ [r % s]).map D.int), .val .N (.int (r / s)), .val .N (.int s), s5, s6, s7], []⟩) := by
      simp [B_law_digits_1, oMod_int h0, oFd_int (i := r) (j := s) ⟨h0, by omega⟩, appR_N ha]
    rw [List.map_cons, forL_step (e1 := ⟨[C, S, .own (row.map D.int), .val .N (.int r), .val .N (.int s), s5, s6, s7], []⟩) (by simp) e2, e]
    simp [bigD, restD]
theorem seedD_bd (s k : Int) : 0 ≤ seedD s k ∧ seedD s k < 2147483647 := by unfold seedD; omega
theorem dg_loop2 (C s3 s4 : Sl) {t : Tg} {ss : List Int} (h : SizesOk ss) : ∀ (m a : Nat) (seed : Int) (row : List Int) (s6 s7 : Sl), a + m = ss.length → 0 ≤ seed → seed < 4294967296 → row.length + m ≤ lim →
    ∃ s5' s6' s7', forL B_law_digits_2 (setV 6) ((List.range' a m).map fun (k : Nat) => (Tg.N, D.int (0 + (k : Int)))) ⟨[C, .val t (.lst (ss.map D.int)), .own (row.map D.int), s3, s4, .val .N (.int seed), s6, s7], []⟩ =
      some (.nx ⟨[C, .val t (.lst (ss.map D.int)), .own ((row ++ smallD seed a (ss.drop a)).map D.int), s3, s4, s5', s6', s7'], []⟩)
  | 0, a, seed, row, s6, s7, ha, _, _, _ => ⟨.val .N (.int seed), s6, s7, by
      rw [List.drop_eq_nil_of_le (by omega)]
      simp [smallD]⟩
  | m + 1, a, seed, row, s6, s7, ha, h0, h1, hl => by
    have hlt : a < ss.length := by omega
    obtain ⟨p0, p1⟩ := h.1 ss[a] (List.getElem_mem _)
    obtain ⟨q0, q1⟩ := seedD_bd seed a
    obtain ⟨s5', s6', s7', e⟩ := dg_loop2 C s3 s4 (t := t) h m (a + 1) (seedD seed a) (row ++ [twiceD (seedD seed a) / 19 % ss[a]]) (.val .N (.int (a : Int))) (.val .N (.int (twiceD (seedD seed a)))) (by omega) q0 (by omega) (by simp; omega)
    refine ⟨s5', s6', s7', ?_⟩
    have hal : (row.map D.int).length ≤ lim := by simp; omega
    have hlen : ss.length ≤ 10000 := h.2
    have b1 : bitsOk seed 48271 = true := bits_sm (by omega) (by omega) (by decide) (by decide)
    have b2 : bitsOk 974711 (a : Int) = true := bits_sm (by decide) (by decide) (by omega) (by omega)
    have b3 : bitsOk (seedD seed a) (seedD seed a / 65537 + 3) = true := bits_sm (by omega) (by omega) (by omega) (by omega)
    have hix : atI (ss.map D.int) (a : Int) = some (.int ss[a]) := atI_map hlt
    have d1 : (seed * 48271 + 974711 * (a : Int) + 12345) % 2147483647 = seedD seed a := rfl
    have d2 : seedD seed a * (seedD seed a / 65537 + 3) % 2147483629 = twiceD (seedD seed a) := rfl
    have e2 : B_law_digits_2 ⟨[C, .val t (.lst (ss.map D.int)), .own (row.map D.int), s3, s4, .val .N (.int seed), .val .N (.int (a : Int)), s7], []⟩ =
        some (.nx ⟨[C, .val t (.lst (ss.map D.int)), .own ((row ++ [twiceD (seedD seed a) / 19 % ss[a]]).map D.int), s3, s4, .val .N (.int (seedD seed a)), .val .N (.int (a : Int)), .val .N (.int (twiceD (seedD seed a)))], []⟩) := by
      unfold B_law_digits_2
      rw [sSeq_nx (e2 := ⟨[C, .val t (.lst (ss.map D.int)), .own (row.map D.int), s3, s4, .val .N (.int (seedD seed a)), .val .N (.int (a : Int)), s7], []⟩) (by simp [oMul_int b1, oMul_int b2, oMod_int, d1])]
      rw [sSeq_nx (e2 := ⟨[C, .val t (.lst (ss.map D.int)), .own (row.map D.int), s3, s4, .val .N (.int (seedD seed a)), .val .N (.int (a : Int)), .val .N (.int (twiceD (seedD seed a)))], []⟩) (by simp [oFd_int, oMul_int b3, oMod_int, d2])]
      simp [oFd_int, oIx_lst hix, oMod_int p0, appR_N hal]
    rw [List.range'_succ, List.map_cons, forL_step (e1 := ⟨[C, .val t (.lst (ss.map D.int)), .own (row.map D.int), s3, s4, .val .N (.int seed), .val .N (.int (a : Int)), s7], []⟩) (by simp) e2, e]
    rw [List.drop_eq_getElem_cons hlt]
    simp [smallD]
theorem sem_law_digits : ∀ rs r, rs.all (fun r => okT r.1) = true → g_law_digits rs = some r → (F_law_digits (env0 N_law_digits.length rs)).bind fin = some r := gN_sem (by
  intro rs d ha h
  unfold h_law_digits at h
  split at h
  · rename_i u c t ds
    obtain ⟨ss, h1, h2⟩ := Option.bind_eq_some_iff.mp h
    obtain ⟨hs, h3⟩ := cif_some h2
    cases h3
    have e := intsOf_some h1
    subst e
    simp only [List.all_cons, Bool.and_eq_true] at ha
    have hit : itemsOf (t, .lst (ss.map D.int)) = some (ss.map fun n => (Tg.N, D.int n)) := by
      cases t <;> first | exact Bool.noConfusion ha.2.1 | (simp [List.map_map, Function.comp_def])
    have hlen := hs.2
    have hp : oPow (Tg.N, D.int 10) (Tg.N, D.int 18) = some (.N, .int 1000000000000000000) := oPow_int ⟨by decide, by decide, by decide⟩
    unfold F_law_digits
    rw [sSeq_nx (e2 := ⟨[.val u (.int c), .val t (.lst (ss.map D.int)), .own ([].map D.int), .un, .un, .un, .un, .un], []⟩) (by simp [lim])]
    rw [sSeq_nx (e2 := ⟨[.val u (.int c), .val t (.lst (ss.map D.int)), .own ([].map D.int), .val .N (.int c), .un, .un, .un, .un], []⟩) (by simp)]
    by_cases hc : c ≥ 1000000000000000000
    · obtain ⟨s4', e⟩ := dg_loop1 (.val u (.int c)) (.val t (.lst (ss.map D.int))) .un .un .un ss (c - 1000000000000000000) [] .un hs.1 (by simp [lim]; omega)
      rw [sSeq_rt (r := (.O, .lst ((digitsM c ss).map D.int)))]
      · rfl
      · rw [sIf_t (by simp [hp]; exact hc)]
        rw [sSeq_nx (e2 := ⟨[.val u (.int c), .val t (.lst (ss.map D.int)), .own ([].map D.int), .val .N (.int (c - 1000000000000000000)), .un, .un, .un, .un], []⟩) (by simp [hp])]
        rw [sSeq_nx ((sFor_at (fi := sIt (sVar 1)) (items := ss.map fun n => (Tg.N, D.int n)) (by simp [hit])).trans e)]
        have : digitsM c ss = bigD (c - 1000000000000000000) ss := if_pos hc
        rw [this]
        simp
    · have hm0 : 0 ≤ c % 2147483629 := by omega
      have hm1 : c % 2147483629 < 4294967296 := by omega
      obtain ⟨s5', s6', s7', e⟩ := dg_loop2 (.val u (.int c)) (.val .N (.int c)) .un (t := t) hs ss.length 0 (c % 2147483629) [] .un .un (by omega) hm0 hm1 (by simp [lim]; omega)
      rw [sSeq_nx (A := sIf _ _ _) (e2 := ⟨[.val u (.int c), .val t (.lst (ss.map D.int)), .own ([].map D.int), .val .N (.int c), .un, .un, .un, .un], []⟩) (by rw [sIf_f (by simp [hp]; omega)]; rfl)]
      rw [sSeq_nx (e2 := ⟨[.val u (.int c), .val t (.lst (ss.map D.int)), .own ([].map D.int), .val .N (.int c), .un, .val .N (.int (c % 2147483629)), .un, .un], []⟩) (by simp [oMod_int])]
      have hr : r1K (Tg.N, D.int (ss.length : Int)) = some (iRng ss.length 0) := by
        rw [r1K_int (by omega)]
        rfl
      rw [sSeq_nx ((sFor_at (fi := sR1 _) (items := iRng ss.length 0) (by simp [hr])).trans (by unfold iRng; rw [List.range_eq_range']; exact e))]
      have : digitsM c ss = smallD (c % 2147483629) 0 ss := if_neg hc
      rw [this]
      simp
  · cases h)
end Lw
namespace Vf
open PySem L2
/-! equal data -/
theorem eqD_same {d : D} (h : pyOk d = true) (hc : (py d).canLay0 = true) (hd : (py d).depth ≤ 64) : eqD d d = some true := by
  have hs : SeqAt.shaped (py d) = true := Bool.and_eq_true_iff.mpr ⟨hc, decide_eq_true hd⟩
  have he : PyData.eqv (py d) (py d) = true := SeqAt.eqv_refl _ hc
  have g : (if pyOk d && pyOk d && SeqAt.shaped (py d) && SeqAt.shaped (py d) then some (PyData.eqv (py d) (py d)) else none) = some true := by
    rw [if_pos (by rw [h, hs]; rfl), he]
  cases d with
  | int i => simp
  | str x => simp
  | bl b => simp
  | non => rfl
  | lst xs => exact g
  | scr xs => exact g
  | tup xs => exact g
  | ins _ _ _ => exact g
  | dic _ _ => exact g
/-! slices, whiles, comprehensions -/
theorem cutD_nat (xs : List D) (a b : Nat) (hb : b ≤ xs.length) : cutD xs (some (a : Int)) (some (b : Int)) = (xs.drop a).take (b - a) := by
  unfold cutD
  rw [HT.sIx_nat, HT.sIx_nat, Nat.min_eq_left hb]
  by_cases h : a ≤ xs.length
  · rw [Nat.min_eq_left h]
  · rw [Nat.min_eq_right (by omega)]
    rw [List.drop_of_length_le (Nat.le_refl _), List.drop_of_length_le (by omega)]
    simp
@[simp] theorem lcL_nil {ct : FT} {fe : FE} {s : TD → Ev → Option Ev} {env : Ev} : lcL ct fe s env [] = some [] := rfl
end Vf
namespace Vf
open PySem L2
/-! all(list of bools), methods of texts -/
def boolsOf : List D → Option (List Bool)
  | [] => some []
  | .bl i :: r => (boolsOf r).map (i :: ·)
  | _ :: _ => none
theorem boolsOf_map : ∀ ns : List Bool, boolsOf (ns.map D.bl) = some ns
  | [] => rfl
  | n :: ns => by
    rw [List.map_cons]
    show (boolsOf (ns.map D.bl)).map (n :: ·) = _
    rw [boolsOf_map ns]
    rfl
def allB (rs : List TD) : Option TD := match rs with
  | [a] => match a.2 with
    | .lst ds => (boolsOf ds).map fun bs => (.N, .bl (bs.all id))
    | _ => none
  | _ => none
@[simp] def sM1 (o : TD → TD → Option TD) (f g : FE) : FE := fun env => (f env).bind fun a => (g env).bind fun b => o a b
@[simp] def sM0 (o : TD → Option TD) (f : FE) : FE := fun env => (f env).bind fun a => o a
@[simp] theorem allB_at {t : Tg} {bs : List Bool} : allB [(t, .lst (bs.map D.bl))] = some (.N, .bl (bs.all id)) := by
  show (boolsOf (bs.map D.bl)).map _ = _
  rw [boolsOf_map]; rfl
end Vf
namespace Vf
open PySem L2
/-! defs that hand a new list back -/
@[simp] def sRetL (fl : FL) : FS := fun env => (fl env).bind fun r => if r.1 = .N then some (.rt (.O, .lst r.2)) else none
@[simp] def sCallL (g : List TD → Option (List D)) (fa : FA) : FL := fun env => (fa env).bind fun rs => (g (rs.map dn)).map fun ds => (.N, ds)
def spO (Z : Zc) (g : List TD → Option (List D)) : Sp := fun vs H Q _ => ∃ N rs ds, Same N H ∧ RVs Z ⟨N, H, H, []⟩ rs vs ∧ rs.all (fun r => okT r.1) = true ∧ g rs = some ds ∧
  ∀ p xs w', Gr ⟨N, H, H, []⟩ w' → H p = none → w'.H p = some (.lst xs) → w'.B p = none → RpL Z w'.N xs ds → Q (.ref p) w'.H
def finO (o : Out) : Option (List D) := match o with
  | .rt (.O, .lst ds) => some ds
  | _ => none
@[simp] theorem finO_rt {ds : List D} : finO (.rt (.O, .lst ds)) = some ds := rfl
structure CaO (P : Program) (w : World) (K : PySem.W.Frag) (mg : Str → Option Value) (base : Heap) (cl : Str → Option Addr) (k : Nat) (x : Str) (ps : List Str) (g : List TD → Option (List D)) : Prop where
  ex : ∃ f fd, FnOk P w K mg base CX0 k f fd ps (spO ⟨K, cl⟩ g) ∧ mg x = some (.ref f) ∧ PySem.W.keepIn K (.ref f) = true ∧ Binds K fd ps []
theorem CaO.mono {P : Program} {w : World} {K : PySem.W.Frag} {mg : Str → Option Value} {base : Heap} {cl : Str → Option Addr} {j k : Nat} {x : Str} {ps : List Str} {g : List TD → Option (List D)} (C : CaO P w K mg base cl j x ps g) (h : j ≤ k) : CaO P w K mg base cl k x ps g := by
  obtain ⟨f, fd, F, r⟩ := C.ex
  exact ⟨⟨f, fd, F.mono h, r⟩⟩
/-! a def's worth, as its own body says -/
def gF (np n : Nat) (F : FS) (rs : List TD) : Option TD := if rs.length = np ∧ rs.all (fun r => okT r.1) = true then (F (env0 n rs)).bind fin else none
theorem gF_at {np n : Nat} {F : FS} {rs : List TD} (h : rs.length = np) (h2 : rs.all (fun r => okT r.1) = true) : gF np n F rs = (F (env0 n rs)).bind fin := if_pos ⟨h, h2⟩
theorem fin_ok {o : Out} {r : TD} (h : fin o = some r) : okT r.1 = true := by
  unfold fin at h
  split at h <;> cases h <;> rfl
theorem gF_ok {np n : Nat} {F : FS} (rs : List TD) (r : TD) (h : gF np n F rs = some r) : okT r.1 = true := by
  unfold gF at h
  split at h
  · obtain ⟨o, _, h2⟩ := Option.bind_eq_some_iff.mp h
    exact fin_ok h2
  · cases h
theorem gF_len {np n : Nat} {F : FS} (rs : List TD) (r : TD) (h : gF np n F rs = some r) : rs.length = np := by
  unfold gF at h
  split at h
  · rename_i hh
    exact hh.1
  · cases h
theorem gF_sem {np n : Nat} {F : FS} (rs : List TD) (r : TD) (_ : rs.all (fun r => okT r.1) = true) (h : gF np n F rs = some r) : (F (env0 n rs)).bind fin = some r := by
  unfold gF at h
  split at h
  · exact h
  · cases h
end Vf
namespace Vf
open PySem L2
/-! texts -/
@[simp] theorem sign_len (c : Nat) : Str.length ⟨#[c]⟩ = 1 := rfl
@[simp] theorem iRng_len (n : Nat) (lo : Int) : (iRng n lo).length = n := by unfold iRng; simp
end Vf
namespace Vf
open PySem L2
/-! str(number), ord(sign), methods of texts, attributes of an instance that stands -/
@[simp] def sM1L (o : TD → TD → Option (Tg × List D)) (f g : FE) : FL := fun env => (f env).bind fun a => (g env).bind fun b => o a b
structure FldOk (K : PySem.W.Frag) (cl : Str → Option Addr) (cs : List Str) (n : Str) : Prop where
  ok : ∀ c ∈ cs, ∀ C, cl c = some C → Cls K C ∧ NoAttr K C n
section
variable {X : Cx} {cl : Str → Option Addr} {a b c o e : Expr} {es : List Expr} {f g h : FE} {fa : FA} {ct dt : FT} {apos pos : Pos}
theorem lookup_rp {Z : Zc} {H : Hp} : ∀ {fs : List Str} {vs : List V} {ds : List D} {n : Str} {d : D}, RpL Z H vs ds → (fs.zip ds).lookup n = some d → ∃ v, (fs.zip vs).lookup n = some v ∧ Rp Z H v d
  | [], _, _, _, _, _, h => by simp at h
  | _ :: _, _, _, _, _, .nil, h => by simp at h
  | f :: fs, _, _, n, d, .cons (v := v) h1 r, h => by
    rw [List.zip_cons_cons, List.lookup_cons] at h
    rw [List.zip_cons_cons, List.lookup_cons]
    cases hq : n == f with
    | true =>
      rw [hq] at h
      cases h
      exact ⟨v, rfl, h1⟩
    | false =>
      rw [hq] at h
      exact lookup_rp r h
theorem RV.ins {Z : Zc} {w : Wd} (hw : Wf w) : ∀ {t : Tg} {c : Str} {fs : List Str} {ds : List D} {v : V}, RV Z w (t, .ins c fs ds) v → ∃ p C dx vs, v = .ref p ∧ w.H p = some (.ins C dx (fs.zip vs)) ∧ Z.cl c = some C ∧ vs.length = fs.length ∧ RpL Z (w.rd (el t)) vs ds
  | .N, _, _, _, _, h => by cases h with | ins h c l r => exact ⟨_, _, _, _, rfl, hw.nh _ _ h, c, l, r⟩
  | .B, _, _, _, _, h => by cases h with | ins h c l r => exact ⟨_, _, _, _, rfl, hw.bh _ _ h, c, l, r⟩
  | .T, _, _, _, _, h => by cases h with | ins h c l r => exact ⟨_, _, _, _, rfl, h, c, l, r⟩
  | .O, _, _, _, _, ⟨p, vs, ds, e, e2, h, b, r⟩ => nomatch e2
end
end Vf
namespace Vf
open PySem L2
/-! objects that may change: the table, handles -/
abbrev FH := Ev → Option HV
def tH (Z : Zc) (f : FH) : TE := fun σ H Q => ∃ env w x, w.H = H ∧ Wok Z env σ w ∧ f env = some x ∧ ∀ v w', Gr w w' → HvOk Z w' v x → Q v w'.H
theorem HvsOk.length {Z : Zc} {w : Wd} : ∀ {vs : List V} {xs : List HV}, HvsOk Z w vs xs → vs.length = xs.length
  | [], [], _ => rfl
  | _ :: _, _ :: _, ⟨_, r⟩ => congrArg Nat.succ r.length
  | [], _ :: _, h => h.elim
  | _ :: _, [], h => h.elim
theorem HvsOk.get {Z : Zc} {w : Wd} : ∀ {vs : List V} {xs : List HV} {i : Nat} {x : HV}, HvsOk Z w vs xs → xs[i]? = some x → ∃ v, vs[i]? = some v ∧ HvOk Z w v x
  | [], [], _, _, _, e => by simp at e
  | _ :: _, _ :: _, 0, _, ⟨h, _⟩, e => by simp at e; subst e; exact ⟨_, rfl, h⟩
  | _ :: _, _ :: _, i + 1, _, ⟨_, r⟩, e => by simpa using r.get (i := i) (by simpa using e)
  | [], _ :: _, _, _, h, _ => h.elim
  | _ :: _, [], _, _, h, _ => h.elim
theorem HvsOk.app {Z : Zc} {w : Wd} : ∀ {vs us : List V} {xs ys : List HV}, HvsOk Z w vs xs → HvsOk Z w us ys → HvsOk Z w (vs ++ us) (xs ++ ys)
  | [], _, [], _, _, h => h
  | _ :: _, _, _ :: _, _, ⟨h, r⟩, q => ⟨h, r.app q⟩
  | [], _, _ :: _, _, h, _ => h.elim
  | _ :: _, _, [], _, h, _ => h.elim
theorem HvsOk.set {Z : Zc} {w : Wd} : ∀ {vs : List V} {xs : List HV} {v : V} {x : HV} (i : Nat), HvsOk Z w vs xs → HvOk Z w v x → HvsOk Z w (vs.set i v) (xs.set i x)
  | [], [], _, _, _, h, _ => h
  | _ :: _, _ :: _, _, _, 0, ⟨_, r⟩, q => ⟨q, r⟩
  | _ :: _, _ :: _, _, _, i + 1, ⟨h, r⟩, q => ⟨h, r.set i q⟩
  | [], _ :: _, _, _, _, h, _ => h.elim
  | _ :: _, [], _, _, _, h, _ => h.elim
theorem hvs_pu {Z : Zc} {w : Wd} : ∀ {vs : List V} {ds : List D}, RpL Z w.N vs ds → HvsOk Z w vs (ds.map .pu)
  | _, _, .nil => trivial
  | _, _, .cons h r => ⟨h, hvs_pu r⟩
/-- an object of the table changes -/
theorem Wok.tset {Z : Zc} {env : Ev} {σ : L2.St} {w : Wd} (k : Wok Z env σ w) {n : Nat} {M0 M : Mob} {a : Addr} {o : HO} (he : env.t[n]? = some (some M0)) (hm : w.m[n]? = some a) (hb : w.B a = none) (hM : MobOk Z ⟨w.N, w.B, upd w.H a o, w.m⟩ a M) :
    Wok Z ⟨env.s, env.t.set n (some M)⟩ σ ⟨w.N, w.B, upd w.H a o, w.m⟩ ∧ Gs w ⟨w.N, w.B, upd w.H a o, w.m⟩ := by
  have wf : Wf ⟨w.N, w.B, upd w.H a o, w.m⟩ := ⟨k.wf.nb, same_up1 k.wf.bh hb⟩
  have hn : n < env.t.length := (List.getElem?_eq_some_iff.mp he).1
  have ha := List.mem_of_getElem? hm
  refine ⟨⟨wf, k.len, fun i s e => ?_, k.dj, ?_⟩, ⟨wf, .refl _, .refl _, fun x q => .inl q, List.prefix_refl _, fun _ q => .inl q⟩⟩
  · obtain ⟨o', h1, h2⟩ := k.sl i s e
    refine ⟨o', h1, ?_⟩
    cases s with
    | un => exact trivial
    | val t d => exact h2
    | han j => exact h2
    | own ds =>
      obtain ⟨p, vs, e', h3, h4, h5, h6⟩ := h2
      have : p ≠ a := fun q => h5 (by rw [q]; exact ha)
      exact ⟨p, vs, e', by show upd w.H a o p = _; rw [upd_ne this]; exact h3, h4, h5, h6⟩
  · refine ⟨by rw [List.length_set]; exact k.tb.len, k.tb.nd, fun b hb' => ?_, fun j M' e => ?_⟩
    · show upd w.H a o b ≠ none
      by_cases q : b = a
      · subst q
        rw [upd_same]
        exact fun z => nomatch z
      · rw [upd_ne q]
        exact k.tb.hh b hb'
    · by_cases hj : n = j
      · subst hj
        rw [List.getElem?_set_self hn] at e
        cases e
        exact ⟨a, hm, hb, hM⟩
      · rw [List.getElem?_set_ne hj] at e
        obtain ⟨b, h1, h2, h3⟩ := k.tb.at_ j M' e
        have hne : b ≠ a := fun q => by
          subst q
          exact hj ((List.getElem?_inj (List.getElem?_eq_some_iff.mp hm).1 k.tb.nd).mp (hm.trans h1.symm))
        exact ⟨b, h1, h2, MobOk.mono (w := w) (w' := ⟨w.N, w.B, upd w.H a o, w.m⟩) (.refl _) (List.prefix_refl _) (fun o' q => by show upd w.H a o b = _; rw [upd_ne hne]; exact q) h3⟩
/-- an object of the table more -/
theorem Wok.tnew {Z : Zc} {env : Ev} {σ : L2.St} {w w' : Wd} (k : Wok Z env σ w) (g : Gr w w') {p : Addr} {o : HO} {M : Mob} (hp : w.H p = none) (h : w'.H p = some o) (hb : w'.B p = none) (hM : MobOk Z w' p M) :
    Wok Z ⟨env.s, env.t ++ [some M]⟩ σ ⟨w'.N, w'.B, w'.H, w'.m ++ [p]⟩ ∧ Gs w ⟨w'.N, w'.B, w'.H, w'.m ++ [p]⟩ := by
  have k' := k.mono g
  have hpm : p ∉ w.m := fun q => k.tb.hh p q hp
  have hpm' : p ∉ w'.m := by rw [g.m]; exact hpm
  have wf : Wf ⟨w'.N, w'.B, w'.H, w'.m ++ [p]⟩ := ⟨g.wf.nb, g.wf.bh⟩
  have px : w'.m <+: w'.m ++ [p] := List.prefix_append _ _
  refine ⟨⟨wf, k'.len, fun i s e => ?_, k'.dj, ?_⟩, ⟨wf, g.n, g.b, fun x q => (g.fn x q).imp id fun z => k.wf.bh.free z, by show w.m <+: w'.m ++ [p]; rw [g.m]; exact List.prefix_append _ _, fun x q => (List.mem_append.mp q).elim (fun z => .inl (by rw [← g.m]; exact z)) fun z => .inr (by rw [List.mem_singleton.mp z]; exact k.wf.bh.free hp)⟩⟩
  · obtain ⟨o', h1, h2⟩ := k'.sl i s e
    refine ⟨o', h1, ?_⟩
    cases s with
    | un => exact trivial
    | val t d => exact h2
    | han j =>
      obtain ⟨a, e1, e2⟩ := h2
      exact ⟨a, e1, by show (w'.m ++ [p])[j]? = _; rw [List.getElem?_append_left (List.getElem?_eq_some_iff.mp e2).1]; exact e2⟩
    | own ds =>
      obtain ⟨q, vs, e', h3, h4, h5, h6⟩ := h2
      refine ⟨q, vs, e', h3, h4, ?_, h6⟩
      show q ∉ w'.m ++ [p]
      intro z
      rcases List.mem_append.mp z with z | z
      · exact h5 z
      · have := List.mem_singleton.mp z
        subst this
        obtain ⟨o2, i1, i2⟩ := k.sl i _ e
        obtain ⟨q2, vs2, e2, i3, _⟩ := i2
        rw [h1] at i1
        cases i1
        rw [e'] at e2
        cases e2
        rw [hp] at i3
        cases i3
  · refine ⟨by show (env.t ++ [some M]).length = (w'.m ++ [p]).length; rw [List.length_append, List.length_append, k'.tb.len]; rfl, ?_, fun b hb' => ?_, fun j M' e => ?_⟩
    · show (w'.m ++ [p]).Nodup
      rw [List.nodup_append]
      exact ⟨k'.tb.nd, by simp, fun x hx y hy e => by rw [List.mem_singleton.mp hy] at e; subst e; exact hpm' hx⟩
    · show w'.H b ≠ none
      rcases List.mem_append.mp hb' with z | z
      · exact k'.tb.hh b z
      · rw [List.mem_singleton.mp z, h]
        exact fun z => nomatch z
    · have e : (env.t ++ [some M])[j]? = some (some M') := e
      by_cases hj : j < env.t.length
      · rw [List.getElem?_append_left hj] at e
        obtain ⟨a, h1, h2, h3⟩ := k'.tb.at_ j M' e
        exact ⟨a, by show (w'.m ++ [p])[j]? = _; rw [List.getElem?_append_left (List.getElem?_eq_some_iff.mp h1).1]; exact h1, h2, MobOk.mono (w := w') (w' := ⟨w'.N, w'.B, w'.H, w'.m ++ [p]⟩) (.refl _) px (fun _ q => q) h3⟩
      · rw [List.getElem?_append_right (by omega)] at e
        have h0 : j - env.t.length = 0 := by
          have := (List.getElem?_eq_some_iff.mp e).1
          simp at this
          omega
        rw [h0] at e
        cases e
        have hlen := k'.tb.len
        exact ⟨p, by show (w'.m ++ [p])[j]? = _; rw [List.getElem?_append_right (by omega), ← hlen, h0]; rfl, hb, MobOk.mono (w := w') (w' := ⟨w'.N, w'.B, w'.H, w'.m ++ [p]⟩) (.refl _) px (fun _ q => q) hM⟩
theorem Wok.setS {Z : Zc} {env : Ev} {σ : L2.St} {w : Wd} (k : Wok Z env σ w) {i : Nat} (hi : i < env.s.length) {x : Sl} {v : V} (hx : ∀ ds, x ≠ .own ds) (h : SlOk Z w (some v) x) : Wok Z (env.put i x) (σ.set i (some v)) w := by
  refine ⟨k.wf, by simpa using k.len, fun j s e => ?_, fun j j' ds es p hne e1 e2 e3 => ?_, k.tb⟩
  · by_cases hj : i = j
    · subst hj
      rw [List.getElem?_set_self hi] at e
      cases e
      exact ⟨some v, List.getElem?_set_self (by rw [k.len]; exact hi), h⟩
    · rw [List.getElem?_set_ne hj] at e
      obtain ⟨o, h1, h2⟩ := k.sl j s e
      exact ⟨o, by rw [List.getElem?_set_ne hj]; exact h1, h2⟩
  · have n1 : i ≠ j := fun q => by
      subst q
      rw [List.getElem?_set_self hi] at e1
      exact hx _ (Option.some.inj e1)
    have n2 : i ≠ j' := fun q => by
      subst q
      rw [List.getElem?_set_self hi] at e2
      exact hx _ (Option.some.inj e2)
    rw [List.getElem?_set_ne n1] at e1 e3
    rw [List.getElem?_set_ne n2] at e2 ⊢
    exact k.dj j j' ds es p hne e1 e2 e3
/-! readings of paths -/
def hVar (i : Nat) : FH := fun env => match env.s[i]? with
  | some (.han n) => some (.ob n)
  | some (.val .N d) => some (.pu d)
  | _ => none
@[simp] def hPu (f : FE) : FH := fun env => (f env).bind fun r => if r.1 = .N then some (.pu r.2) else none
def puD : HV → Option TD
  | .pu d => some (.N, d)
  | .ob _ => none
@[simp] def sOfH (h : FH) : FE := fun env => (h env).bind puD
def obIns (cs : List Str) (n : Str) (T : Tb) : HV → Option HV
  | .ob k => match T[k]? with
    | some (some (.ins c fs xs)) => if c ∈ cs then (fs.zip xs).lookup n else none
    | _ => none
  | .pu _ => none
@[simp] def hFld (cs : List Str) (n : Str) (h : FH) : FH := fun env => (h env).bind (obIns cs n env.t)
def obLst (T : Tb) : HV → Option (Nat × List HV)
  | .ob k => match T[k]? with
    | some (some (.lst xs)) => some (k, xs)
    | _ => none
  | .pu _ => none
def ixH (xs : List HV) (r : TD) : Option HV := match r.2 with | .int i => atI xs i | _ => none
@[simp] def hIx (h : FH) (g : FE) : FH := fun env => (h env).bind fun a => (obLst env.t a).bind fun q => (g env).bind (ixH q.2)
@[simp] def sLenH (h : FH) : FE := fun env => (h env).bind fun a => (obLst env.t a).map fun q => (.N, .int q.2.length)
def appH (env : Ev) (k : Nat) (xs : List HV) (x : HV) : Option Out := if xs.length ≤ lim then some (.nx ⟨env.s, env.t.set k (some (.lst (xs ++ [x])))⟩) else none
@[simp] def sAppH (h g : FH) : FS := fun env => (h env).bind fun a => (obLst env.t a).bind fun q => (g env).bind fun x => appH env q.1 q.2 x
def setHS (i : Nat) (x : HV) (env : Ev) : Option Ev := if i < env.s.length then some (match x with | .ob n => env.put i (.han n) | .pu d => env.put i (.val .N d)) else none
@[simp] def sSetH (i : Nat) (h : FH) : FS := fun env => (h env).bind fun x => (setHS i x env).map .nx
def newH (i : Nat) (env : Ev) (r : Tg × List D) : Option Out := if i < env.s.length then (match r.1 with
  | .N => some (.nx ⟨env.s.set i (.han env.t.length), env.t ++ [some (.lst (r.2.map .pu))]⟩)
  | _ => none) else none
@[simp] def sNewH (i : Nat) (f : FL) : FS := fun env => (f env).bind (newH i env)
theorem obLst_some {T : Tb} {x : HV} {k : Nat} {xs : List HV} (h : obLst T x = some (k, xs)) : x = .ob k ∧ T[k]? = some (some (.lst xs)) := by
  unfold obLst at h
  split at h
  · split at h
    · rename_i n _ ys e
      cases h
      exact ⟨rfl, e⟩
    · cases h
  · cases h
theorem ob_lst {Z : Zc} {T : Tb} {w : Wd} (t : TbOk Z T w) {k : Nat} {xs : List HV} {v : V} (hv : HvOk Z w v (.ob k)) (e : T[k]? = some (some (.lst xs))) : ∃ a vs, v = .ref a ∧ w.m[k]? = some a ∧ w.B a = none ∧ w.H a = some (.lst vs) ∧ HvsOk Z w vs xs := by
  obtain ⟨a, rfl, h1⟩ := hv
  obtain ⟨a', h2, h3, vs, h4, h5⟩ := t.at_ k _ e
  rw [h1] at h2
  cases h2
  exact ⟨a, vs, rfl, h1, h3, h4, h5⟩
section
variable {X : Cx} {cl : Str → Option Addr} {a b c e : Expr} {es : List Expr} {f g : FE} {h hh : FH} {fa : FA} {fl : FL} {ct : FT} {A B : FS} {pos : Pos} {st : Stmt} {rest body orelse : List Stmt}
theorem jh_var (i : Nat) {x : Str} {pos : Pos} (hN : X.N[i]? = some x := by rfl) (hv : Vis X.env.scope x := by first | exact Or.inl rfl | exact Or.inr (Or.inl rfl) | exact Or.inr (Or.inr rfl))
    (hd : (x == ("__debug__" : Str)) = false := by decide) (hcd : (x == ("__classdict__" : Str)) = false := by decide) : PE X (.Name x pos) (tH (zx X cl) (hVar i)) := by
  refine pe_w (pe_var (i := i) hN hv hd hcd) fun σ H Q ⟨env, w, r, e, k, hr, q⟩ => ?_
  subst e
  unfold hVar at hr
  split at hr
  · rename_i n he
    cases hr
    obtain ⟨o, ho, a, rfl, h1⟩ := k.sl i _ he
    exact ⟨_, ho, q _ w (Gr.refl k.wf) ⟨a, rfl, h1⟩⟩
  · rename_i d he
    cases hr
    obtain ⟨o, ho, v, rfl, hv⟩ := k.sl i _ he
    refine ⟨_, ho, q _ w (Gr.refl k.wf) ?_⟩
    rcases hv with ⟨_, hv⟩ | ⟨z, _⟩
    · exact hv
    · cases z
  · cases hr
theorem lookup_hv {Z : Zc} {w : Wd} : ∀ {fs : List Str} {vs : List V} {xs : List HV} {n : Str} {x : HV}, HvsOk Z w vs xs → (fs.zip xs).lookup n = some x → ∃ v, (fs.zip vs).lookup n = some v ∧ HvOk Z w v x
  | [], _, _, _, _, _, h => by simp at h
  | _ :: _, [], [], _, _, _, h => by simp at h
  | f :: fs, v :: vs, y :: xs, n, x, ⟨h1, r⟩, h => by
    rw [List.zip_cons_cons, List.lookup_cons] at h
    rw [List.zip_cons_cons, List.lookup_cons]
    cases hq : n == f with
    | true =>
      rw [hq] at h
      cases h
      exact ⟨v, rfl, h1⟩
    | false =>
      rw [hq] at h
      exact lookup_hv r h
  | _ :: _, [], _ :: _, _, _, h, _ => h.elim
  | _ :: _, _ :: _, [], _, _, h, _ => h.elim
theorem atI_hv {Z : Zc} {w : Wd} {vs : List V} {xs : List HV} {i : Int} {x : HV} (r : HvsOk Z w vs xs) (h : atI xs i = some x) : ∃ v, atI vs i = some v ∧ HvOk Z w v x := by
  unfold atI at h ⊢
  rw [r.length]
  obtain ⟨j, h1, h2⟩ := Option.bind_eq_some_iff.mp h
  obtain ⟨v, h3, h4⟩ := r.get h2
  exact ⟨v, by rw [h1]; exact h3, h4⟩
end
end Vf
namespace Vf
open PySem L2
/-! defs that see the table -/
abbrev FAH := Ev → Option (List HV)
@[simp] def hNil : FAH := fun _ => some []
@[simp] def hCons (f : FH) (g : FAH) : FAH := fun env => (f env).bind fun x => (g env).map fun xs => x :: xs
def slH : HV → Sl | .pu d => .val .N d | .ob n => .han n
def env0H (n : Nat) (xs : List HV) (T : Tb) : Ev := ⟨xs.map slH ++ List.replicate (n - xs.length) .un, T⟩
@[simp] def sRetH (h : FH) : FS := fun env => (h env).map fun x => .rth x env.t
theorem wok_startH {Z : Zc} {w : Wd} {T : Tb} (hw : Wf w) (ht : TbOk Z T w) {names : List Str} {xs : List HV} {vs : List V} (h : HvsOk Z w vs xs) (hl : xs.length ≤ names.length) : Wok Z (env0H names.length xs T) (L2.start names vs) w := by
  have hvl := h.length
  refine ⟨hw, ?_, fun i s e => ?_, fun i j ds es p hne e1 e2 e3 => ?_, ht⟩
  · unfold L2.start env0H
    simp only [List.length_append, List.length_map, List.length_replicate]
    omega
  · unfold env0H at e
    dsimp only at e
    by_cases hi : i < xs.length
    · rw [List.getElem?_append_left (by rw [List.length_map]; exact hi), List.getElem?_map] at e
      obtain ⟨x, h1, rfl⟩ := Option.map_eq_some_iff.mp e
      obtain ⟨v, h2, h3⟩ := h.get h1
      refine ⟨some v, ?_, ?_⟩
      · unfold L2.start
        rw [List.getElem?_append_left (by rw [List.length_map]; omega), List.getElem?_map, h2]
        rfl
      · cases x with
        | pu d => exact ⟨v, rfl, .inl ⟨rfl, h3⟩⟩
        | ob n =>
          obtain ⟨a, rfl, h4⟩ := h3
          exact ⟨a, rfl, h4⟩
    · rw [List.getElem?_append_right (by rw [List.length_map]; omega)] at e
      have e2 := List.mem_of_getElem? e
      have e3 := List.eq_of_mem_replicate e2
      subst e3
      have hlt : i - (xs.map slH).length < names.length - xs.length := by
        have := (List.getElem?_eq_some_iff.mp e).1
        simpa using this
      rw [List.length_map] at hlt
      refine ⟨none, ?_, trivial⟩
      unfold L2.start
      rw [List.getElem?_append_right (by rw [List.length_map]; omega), List.length_map, List.getElem?_replicate]
      rw [if_pos (by omega)]
  · unfold env0H at e1
    dsimp only at e1
    rcases List.mem_append.mp (List.mem_of_getElem? e1) with z | z
    · obtain ⟨x, _, q⟩ := List.mem_map.mp z
      cases x <;> cases q
    · cases List.eq_of_mem_replicate z
section
variable {X : Cx} {cl : Str → Option Addr} {a b c e : Expr} {es : List Expr} {f g : FE} {h hh : FH} {fa : FAH} {fl : FL} {ct : FT} {A B : FS} {pos : Pos} {gg : List HV → Tb → Option (HV × Tb)} {ps : List Str} {k j : Nat}
@[simp] def sCallSet (i : Nat) (gg : List HV → Tb → Option (HV × Tb)) (fa : FAH) : FS := fun env => (fa env).bind fun xs => (gg xs env.t).bind fun r => (setHS i r.1 ⟨env.s, r.2⟩).map .nx
@[simp] def sCallDo (gg : List HV → Tb → Option (HV × Tb)) (fa : FAH) : FS := fun env => (fa env).bind fun xs => (gg xs env.t).map fun r => .nx ⟨env.s, r.2⟩
@[simp] def sCallRet (gg : List HV → Tb → Option (HV × Tb)) (fa : FAH) : FS := fun env => (fa env).bind fun xs => (gg xs env.t).map fun r => .rth r.1 r.2
theorem setHS_ok {Z : Zc} {i : Nat} {env e' : Ev} {σ : L2.St} {w : Wd} {x : HV} {v : V} (k : Wok Z env σ w) (h : setHS i x env = some e') (hv : HvOk Z w v x) : Wok Z e' (σ.set i (some v)) w := by
  unfold setHS at h
  split at h
  · rename_i hi
    cases h
    cases x with
    | ob n => exact k.setS hi (fun _ z => nomatch z) (by obtain ⟨a, rfl, h3⟩ := hv; exact ⟨a, rfl, h3⟩)
    | pu d => exact k.setS hi (fun _ z => nomatch z) ⟨v, rfl, .inl ⟨rfl, hv⟩⟩
  · cases h
end
end Vf
namespace Vf
open PySem L2
/-! e.f = g; a new instance -/
def putG {α : Type} (n : Str) (x : α) : List Str → List α → List Str × List α
  | [], _ => ([n], [x])
  | f :: fs, [] => (f :: fs, [])
  | f :: fs, y :: ys => if f = n then (f :: fs, x :: ys) else (f :: (putG n x fs ys).1, y :: (putG n x fs ys).2)
theorem putG_F {n : Str} {v : V} : ∀ {fs : List Str} {vs : List V}, vs.length = fs.length → putF n v (fs.zip vs) = (putG n v fs vs).1.zip (putG n v fs vs).2
  | [], vs, _ => rfl
  | f :: fs, [], h => by simp at h
  | f :: fs, u :: vs, h => by
    have ih := putG_F (n := n) (v := v) (fs := fs) (vs := vs) (by simpa using h)
    rw [List.zip_cons_cons]
    show (if f = n then (f, v) :: fs.zip vs else (f, u) :: putF n v (fs.zip vs)) = _
    unfold putG
    by_cases q : f = n
    · rw [if_pos q, if_pos q]; rfl
    · rw [if_neg q, if_neg q, ih]; rfl
theorem putG_names {α β : Type} {n : Str} {x : α} {y : β} : ∀ {fs : List Str} {xs : List α} {ys : List β}, xs.length = fs.length → ys.length = fs.length → (putG n x fs xs).1 = (putG n y fs ys).1
  | [], _, _, _, _ => rfl
  | f :: fs, [], _, h, _ => by simp at h
  | f :: fs, _ :: _, [], _, h => by simp at h
  | f :: fs, a :: xs, b :: ys, h1, h2 => by
    have ih := putG_names (n := n) (x := x) (y := y) (fs := fs) (xs := xs) (ys := ys) (by simpa using h1) (by simpa using h2)
    unfold putG
    by_cases q : f = n
    · rw [if_pos q, if_pos q]
    · rw [if_neg q, if_neg q]
      show f :: _ = f :: _
      rw [ih]
theorem putG_len {α : Type} {n : Str} {x : α} : ∀ {fs : List Str} {xs : List α}, xs.length = fs.length → (putG n x fs xs).2.length = (putG n x fs xs).1.length
  | [], _, _ => rfl
  | f :: fs, [], h => by simp at h
  | f :: fs, a :: xs, h => by
    have ih := putG_len (n := n) (x := x) (fs := fs) (xs := xs) (by simpa using h)
    unfold putG
    by_cases q : f = n
    · rw [if_pos q]; simpa using h
    · rw [if_neg q]; simpa using ih
theorem putG_hv {Z : Zc} {w : Wd} {n : Str} {v : V} {x : HV} (hx : HvOk Z w v x) : ∀ {fs : List Str} {vs : List V} {xs : List HV}, HvsOk Z w vs xs → HvsOk Z w (putG n v fs vs).2 (putG n x fs xs).2
  | [], _, _, _ => ⟨hx, trivial⟩
  | f :: fs, [], [], _ => trivial
  | f :: fs, u :: vs, y :: xs, ⟨h1, h2⟩ => by
    unfold putG
    by_cases q : f = n
    · rw [if_pos q, if_pos q]; exact ⟨hx, h2⟩
    · rw [if_neg q, if_neg q]; exact ⟨h1, putG_hv hx h2⟩
  | _ :: _, [], _ :: _, h => h.elim
  | _ :: _, _ :: _, [], h => h.elim
def stoK (cs : List Str) (n : Str) (env : Ev) (x : HV) : HV → Option Out
  | .ob k => match env.t[k]? with
    | some (some (.ins c fs xs)) => if c ∈ cs ∧ fs.length < 1000 then some (.nx ⟨env.s, env.t.set k (some (.ins c (putG n x fs xs).1 (putG n x fs xs).2))⟩) else none
    | _ => none
  | .pu _ => none
/-- o.n = e -/
@[simp] def sSto (cs : List Str) (n : Str) (h g : FH) : FS := fun env => (g env).bind fun x => (h env).bind (stoK cs n env x)
/-- C(..): the number of the new object, the table behind __init__ -/
def mkK (c : Str) (gi : List HV → Tb → Option (HV × Tb)) (xs : List HV) (T : Tb) : Option Tb := (gi (.ob T.length :: xs) (T ++ [some (.ins c [] [])])).bind fun r => match r.1 with
  | .pu .non => some r.2
  | _ => none
@[simp] def sMkSet (i : Nat) (c : Str) (gi : List HV → Tb → Option (HV × Tb)) (fa : FAH) : FS := fun env => (fa env).bind fun xs => (mkK c gi xs env.t).bind fun T' => (setHS i (.ob env.t.length) ⟨env.s, T'⟩).map .nx
end Vf
namespace Vf
open PySem L2
/-! methods of the program's classes -/
/-- the class and the variables of an object -/
def insOf (T : Tb) : HV → Option (Str × List Str)
  | .ob k => match T[k]? with
    | some (some (.ins c fs _)) => some (c, fs)
    | _ => none
  | .pu (.ins c fs _) => some (c, fs)
  | .pu _ => none
theorem insOf_ok {Z : Zc} {T : Tb} {w : Wd} (hw : Wf w) (t : TbOk Z T w) {x : HV} {v : V} {c : Str} {fs : List Str} (hv : HvOk Z w v x) (e : insOf T x = some (c, fs)) : ∃ a C dx vs, v = .ref a ∧ w.H a = some (.ins C dx (fs.zip vs)) ∧ Z.cl c = some C := by
  cases x with
  | ob k =>
    unfold insOf at e
    dsimp only at e
    split at e
    · rename_i ej
      cases e
      obtain ⟨a, rfl, h1⟩ := hv
      obtain ⟨a', h2, h3, C, dx, vs, h4, h5, h6, h7⟩ := t.at_ k _ ej
      rw [h1] at h2
      cases h2
      exact ⟨a, C, dx, vs, rfl, h4, h5⟩
    · cases e
  | pu d =>
    cases d with
    | ins c' fs' ds =>
      cases e
      obtain ⟨p, C, dx, vs, e1, h1, h2, h3, h4⟩ := RV.ins (t := .N) hw hv
      exact ⟨p, C, dx, vs, e1, h1, h2⟩
    | _ => cases e
theorem lookup_no {fs : List Str} {m : Str} : ∀ {vs : List V}, m ∉ fs → (fs.zip vs).lookup m = none := by
  induction fs with
  | nil => intro vs _; rfl
  | cons f fs ih =>
    intro vs h
    cases vs with
    | nil => rfl
    | cons v vs =>
      rw [List.zip_cons_cons, List.lookup_cons]
      have : (m == f) = false := beq_eq_false_iff_ne.mpr fun e => h (by rw [e]; exact List.mem_cons_self)
      rw [this]
      exact ih fun z => h (List.mem_cons_of_mem _ z)
/-- what o.m(..) is worth -/
def methK (c m : Str) (gg : List HV → Tb → Option (HV × Tb)) (T : Tb) (x : HV) (xs : List HV) : Option (HV × Tb) := (insOf T x).bind fun q => if q.1 = c ∧ m ∉ q.2 then gg (x :: xs) T else none
@[simp] def sMeth (c m : Str) (gg : List HV → Tb → Option (HV × Tb)) (h : FH) (fa : FAH) (out : Ev → HV × Tb → Option Out) : FS := fun env => (h env).bind fun x => (fa env).bind fun xs => (methK c m gg env.t x xs).bind (out env)
end Vf
namespace Vf
open PySem L2
/-! o[i] = e, o a list of the table; its length, its truth -/
def putK (env : Ev) (k : Nat) (xs : List HV) (x : HV) (r : TD) : Option Out := match r.2 with
  | .int i => (ixN xs.length i).map fun j => .nx ⟨env.s, env.t.set k (some (.lst (xs.set j x)))⟩
  | _ => none
/-- o[g] = e -/
@[simp] def sPutH (h : FH) (g : FE) (v : FH) : FS := fun env => (v env).bind fun x => (h env).bind fun a => (obLst env.t a).bind fun q => (g env).bind (putK env q.1 q.2 x)
end Vf
namespace Vf
open PySem L2
/-! an object of the table becomes a tree: nobody changes it any more -/
def pures : List HV → Option (List D)
  | [] => some []
  | .pu d :: r => (pures r).map (d :: ·)
  | .ob _ :: _ => none
def mobD : Mob → Option D
  | .lst xs => (pures xs).map .lst
  | .ins c fs xs => (pures xs).map (.ins c fs)
  | _ => none
theorem pures_rp {Z : Zc} {w : Wd} : ∀ {vs : List V} {xs : List HV} {ds : List D}, HvsOk Z w vs xs → pures xs = some ds → RpL Z w.N vs ds
  | [], [], _, _, e => by cases e; exact .nil
  | v :: vs, .pu d :: xs, _, ⟨h, r⟩, e => by
    obtain ⟨ds, e1, rfl⟩ := Option.map_eq_some_iff.mp e
    exact .cons h (pures_rp r e1)
  | _ :: _, .ob _ :: _, _, _, e => by cases e
  | [], _ :: _, _, h, _ => h.elim
  | _ :: _, [], _, h, _ => h.elim
def frzHK (i : Nat) (env : Ev) : Sl → Option Out
  | .han n => match env.t[n]? with
    | some (some M) => (mobD M).map fun d => .nx ⟨env.s.set i (.val .N d), env.t.set n none⟩
    | _ => none
  | _ => some (.nx env)
@[simp] def sFrzH (i : Nat) : FS := fun env => (env.s[i]?).bind (frzHK i env)
end Vf
namespace Vf
open PySem L2
/-! len and truth of a list of the table -/
def lenHK (T : Tb) (xs : List HV) : Option TD := match xs with
  | [a] => (obLst T a).map fun q => (.N, .int q.2.length)
  | _ => none
@[simp] def sLenOf (h : FH) : FE := fun env => (h env).bind fun a => lenHK env.t [a]
@[simp] def sTruH (h : FH) : FT := fun env => (h env).bind fun a => (obLst env.t a).map fun q => !q.2.isEmpty
end Vf
namespace Vf
open PySem L2
/-! x[i] = e, x an own list -/
end Vf
namespace Vf
open PySem L2
/-! what holds of a worth that is there -/
def Ok {α : Type} (o : Option α) (Q : α → Prop) : Prop := ∃ x, o = some x ∧ Q x
section
variable {α β : Type} {Q R : α → Prop} {P : β → Prop} {o : Option α} {a : α}
@[simp] theorem Ok_some : Ok (some a) Q ↔ Q a := ⟨fun ⟨x, e, h⟩ => by cases e; exact h, fun h => ⟨a, rfl, h⟩⟩
@[simp] theorem Ok_none : Ok none Q ↔ False := ⟨fun ⟨x, e, h⟩ => (nomatch e), fun h => h.elim⟩
@[simp] theorem Ok_bind {f : α → Option β} : Ok (o.bind f) P ↔ Ok o fun x => Ok (f x) P := by
  cases o <;> simp
@[simp] theorem Ok_map {f : α → β} : Ok (o.map f) P ↔ Ok o fun x => P (f x) := by
  cases o <;> simp
@[simp] theorem Ok_ite {c : Prop} [Decidable c] {p q : Option α} : Ok (if c then p else q) Q ↔ (c → Ok p Q) ∧ (¬ c → Ok q Q) := by
  split <;> simp_all
@[simp] theorem Ok_cif {c : Prop} {p : Option α} : Ok (cif c p none) Q ↔ c ∧ Ok p Q := by
  by_cases h : c
  · rw [cif_pos h]; simp [h]
  · rw [cif_neg h]; simp [h]
theorem Ok.mono (h : Ok o Q) (hq : ∀ x, Q x → R x) : Ok o R := by
  obtain ⟨x, e, q⟩ := h
  exact ⟨x, e, hq x q⟩
theorem Ok.of (e : o = some a) (h : Q a) : Ok o Q := ⟨a, e, h⟩
theorem Ok.eq (h : Ok o fun x => x = a) : o = some a := by
  obtain ⟨x, e, rfl⟩ := h
  exact e
theorem Ok.of_eq (h : o = some a) : Ok o fun x => x = a := ⟨a, h, rfl⟩
end
section
variable {t u : Tg} {i j : Int} {x y z : Str} {b k : Bool} {xs ys ds es : List D} {d : D} {env : Ev} {n : Nat} {f g : FE} {A B : FS} {r : TD} {rs : List TD} {Q : TD → Prop} {Ql : Tg × List D → Prop} {Qo : Out → Prop} {Qi : List TD → Prop}
@[simp] theorem Ok_oMul_int : Ok (oMul (t, .int i) (u, .int j)) Q ↔ bitsOk i j = true ∧ Q (.N, .int (i * j)) := by
  show Ok (cif _ _ none) Q ↔ _
  simp
@[simp] theorem Ok_oMul_lst : Ok (oMul (t, .lst xs) (u, .int i)) Q ↔ (i.natAbs ≤ lim ∧ xs.length * i.toNat ≤ lim) ∧ Q (el t, .lst (List.replicate i.toNat xs).flatten) := by
  show Ok (cif _ _ none) Q ↔ _
  simp
@[simp] theorem Ok_oFd : Ok (oFd (t, .int i) (u, .int j)) Q ↔ (0 < j ∧ j < 18446744073709551616) ∧ Q (.N, .int (i / j)) := by
  show Ok (cif _ _ none) Q ↔ _
  simp
@[simp] theorem Ok_oMod : Ok (oMod (t, .int i) (u, .int j)) Q ↔ 0 < j ∧ Q (.N, .int (i % j)) := by
  show Ok (cif _ _ none) Q ↔ _
  simp
@[simp] theorem Ok_oPow : Ok (oPow (t, .int i) (u, .int j)) Q ↔ (0 ≤ j ∧ j ≤ 1000000 ∧ i.natAbs < 18446744073709551616) ∧ Q (.N, .int (i ^ j.toNat)) := by
  show Ok (cif _ _ none) Q ↔ _
  simp
theorem Ok_of_if {α : Type} {c : Prop} [Decidable c] {p : Option α} {P : α → Prop} : Ok (if c then p else none) P ↔ c ∧ Ok p P := by
  split <;> simp_all
@[simp] theorem Ok_oAdd_str : Ok (oAdd (t, .str x) (u, .str y)) Q ↔ x.length + y.length ≤ lim ∧ Q (.N, .str (x ++ y)) := by
  show Ok (if _ then _ else none) Q ↔ _
  rw [Ok_of_if, Ok_some]
@[simp] theorem Ok_oAdd_lst : Ok (oAdd (t, .lst xs) (u, .lst ys)) Q ↔ xs.length + ys.length ≤ lim ∧ Q (mt2 (el t) (el u), .lst (xs ++ ys)) := by
  show Ok (if _ then _ else none) Q ↔ _
  rw [Ok_of_if, Ok_some]
@[simp] theorem Ok_oAdd_tup : Ok (oAdd (t, .tup xs) (u, .tup ys)) Q ↔ xs.length + ys.length ≤ lim ∧ Q (mt2 (el t) (el u), .tup (xs ++ ys)) := by
  show Ok (if _ then _ else none) Q ↔ _
  rw [Ok_of_if, Ok_some]
@[simp] theorem Ok_catL : Ok (catL (t, .lst xs) (u, .lst ys)) Ql ↔ xs.length + ys.length ≤ lim ∧ Ql (mt2 (el t) (el u), xs ++ ys) := by
  show Ok (if _ then _ else none) Ql ↔ _
  rw [Ok_of_if, Ok_some]
@[simp] theorem Ok_oIx_lst : Ok (oIx (t, .lst xs) (u, .int i)) Q ↔ Ok (atI xs i) fun d => Q (nm (el t, d)) := by
  show Ok ((atI xs i).map _) Q ↔ _
  simp
@[simp] theorem Ok_oIx_scr : Ok (oIx (t, .scr xs) (u, .int i)) Q ↔ Ok (atI xs i) fun d => Q (nm (el t, d)) := by
  show Ok ((atI xs i).map _) Q ↔ _
  simp
@[simp] theorem Ok_oIx_tup : Ok (oIx (t, .tup xs) (u, .int i)) Q ↔ Ok (atI xs i) fun d => Q (nm (el t, d)) := by
  show Ok ((atI xs i).map _) Q ↔ _
  simp
@[simp] theorem Ok_r1K : Ok (r1K (t, .int j)) Qi ↔ (j < 4611686018427387904 ∧ -4611686018427387904 ≤ j) ∧ Qi (iRng j.toNat 0) := by
  show Ok (cif _ _ none) Qi ↔ _
  simp
@[simp] theorem Ok_r2K : Ok (r2K (t, .int i) (u, .int j)) Qi ↔ (i < 4611686018427387904 ∧ -4611686018427387904 ≤ i ∧ j < 4611686018427387904 ∧ -4611686018427387904 ≤ j) ∧ Qi (iRng (j - i).toNat i) := by
  show Ok (cif _ _ none) Qi ↔ _
  simp
@[simp] theorem Ok_lenS : Ok (lenB [(t, .str x)]) Q ↔ x.length ≤ lim ∧ Q (.N, .int x.length) := by
  show Ok (if _ then _ else none) Q ↔ _
  rw [Ok_of_if, Ok_some]
@[simp] theorem Ok_appR : Ok (appR n env ds (.N, d)) Qo ↔ ds.length ≤ lim ∧ Qo (.nx (env.put n (.own (ds ++ [d])))) := by
  show Ok (if _ then _ else none) Qo ↔ _
  rw [Ok_of_if, Ok_some]
@[simp] theorem Ok_extR : Ok (extR n env ds (.N, .lst es)) Qo ↔ ds.length + es.length ≤ lim ∧ Qo (.nx (env.put n (.own (ds ++ es)))) := by
  show Ok (if _ then _ else none) Qo ↔ _
  rw [Ok_of_if, Ok_some]
@[simp] theorem Ok_slD_str {lo hi : Option Int} : Ok (slD (t, .str x) lo hi) Q ↔ x.length ≤ lim ∧ Q (.N, .str (cutS x lo hi)) := by
  show Ok (if _ then _ else none) Q ↔ _
  rw [Ok_of_if, Ok_some]
/-- x[i] = e -/
def putR (n : Nat) (env : Ev) (ds : List D) (r k : TD) : Option Out := match r.1, k.2 with
  | .N, .int j => (ixN ds.length j).map fun m => .nx (env.put n (.own (ds.set m r.2)))
  | _, _ => none
def putK' (n : Nat) (g : FE) (env : Ev) (r : TD) : Sl → Option Out
  | .own ds => (g env).bind (putR n env ds r)
  | _ => none
@[simp] theorem sPut_eq : sPut n g f env = (f env).bind fun r => (env.s[n]?).bind (putK' n g env r) := by
  unfold sPut
  congr 1
  funext r
  cases h : env.s[n]? with
  | none => rfl
  | some s => cases s <;> rfl
@[simp] theorem putK'_own : putK' n g env r (.own ds) = (g env).bind (putR n env ds r) := rfl
@[simp] theorem putR_N : putR n env ds (.N, d) (t, .int j) = (ixN ds.length j).map fun m => .nx (env.put n (.own (ds.set m d))) := rfl
@[simp] theorem wipeE_nil : wipeE env [] = env := rfl
@[simp] theorem wipeE_cons {v : Nat} {vs : List Nat} : wipeE env (v :: vs) = (wipeE env vs).put v .un := rfl
/-! the places of a list -/
/-! loops -/
theorem forL_inv {A : FS} {s : TD → Ev → Option Ev} {Q : Out → Prop} : ∀ {items : List TD} (I : Nat → Ev → Prop) (k0 : Nat) {env : Ev}, I k0 env →
    (∀ (k : Nat) (r : TD) (env : Ev), items[k]? = some r → I (k0 + k) env → Ok (s r env) fun e1 => Ok (A e1) fun o => match o with
      | .nx e => I (k0 + k + 1) e
      | .ct e => I (k0 + k + 1) e
      | .bk e => Q (.nx e)
      | o => Q o) → (∀ env, I (k0 + items.length) env → Q (.nx env)) → Ok (forL A s items env) Q
  | [], I, k0, env, h0, _, he => by rw [forL_nil]; exact Ok_some.mpr (he env h0)
  | r :: rs, I, k0, env, h0, hs, he => by
    rw [forL_cons]
    obtain ⟨e1, q1, o, q2, q3⟩ := hs 0 r env rfl h0
    rw [q1]
    show Ok ((A e1).bind _) Q
    rw [q2]
    have next : ∀ e, I (k0 + 1) e → Ok (forL A s rs e) Q := fun e hi => forL_inv I (k0 + 1) hi (fun k r env hk hI => by
      have := hs (k + 1) r env (by simpa using hk) (by rw [Nat.add_assoc, Nat.add_comm 1 k] at hI; exact hI)
      rw [Nat.add_assoc k0 1 k, Nat.add_comm 1 k]
      exact this) (fun env hI => he env (by rw [List.length_cons, Nat.add_comm rs.length 1, ← Nat.add_assoc]; exact hI))
    cases o with
    | nx e => exact next e q3
    | ct e => exact next e q3
    | bk e => exact Ok_some.mpr q3
    | rt r => exact Ok_some.mpr q3
    | rth x T => exact Ok_some.mpr q3
/-- a loop, from its first turn -/
theorem forL_ok {A : FS} {s : TD → Ev → Option Ev} {Q : Out → Prop} {items : List TD} (I : Nat → Ev → Prop) {env : Ev} (h0 : I 0 env)
    (hs : ∀ (k : Nat) (r : TD) (env : Ev), items[k]? = some r → I k env → Ok (s r env) fun e1 => Ok (A e1) fun o => match o with
      | .nx e => I (k + 1) e
      | .ct e => I (k + 1) e
      | .bk e => Q (.nx e)
      | o => Q o) (he : ∀ env, I items.length env → Q (.nx env)) : Ok (forL A s items env) Q :=
  forL_inv I 0 h0 (fun k r env hk hI => by simpa using hs k r env hk (by simpa using hI)) (fun env hI => he env (by simpa using hI))
/-! comprehensions: each item by itself -/
theorem lcL_fil {ct : FT} {fe : FE} {s : TD → Ev → Option Ev} {env : Ev} {p : TD → Bool} {F : TD → D} : ∀ {rs : List TD}, (∀ r ∈ rs, Ok (s r env) fun e => Ok (ct e) fun b => b = p r ∧ (p r = true → Ok (fe e) fun y => y = (.N, F r))) → lcL ct fe s env rs = some ((rs.filter p).map fun r => (.N, F r))
  | [], _ => rfl
  | r :: rs, h => by
    obtain ⟨e, q1, b, q2, q3, q4⟩ := h r List.mem_cons_self
    have ih := lcL_fil (rs := rs) fun r hr => h r (List.mem_cons_of_mem _ hr)
    unfold lcL
    rw [q1, ih]
    cases hb : p r with
    | false => simp [q2, q3, hb]
    | true =>
      obtain ⟨y, q5, q6⟩ := q4 hb
      simp [q2, q3, hb, q5, q6, okT]
inductive All2 {α β : Type} (P : α → β → Prop) : List α → List β → Prop
  | nil : All2 P [] []
  | cons {x : α} {y : β} {xs : List α} {ys : List β} : P x y → All2 P xs ys → All2 P (x :: xs) (y :: ys)
theorem All2.length {α β : Type} {P : α → β → Prop} : ∀ {xs : List α} {ys : List β}, All2 P xs ys → ys.length = xs.length
  | _, _, .nil => rfl
  | _, _, .cons _ r => congrArg Nat.succ r.length
theorem All2.get {α β : Type} {P : α → β → Prop} : ∀ {xs : List α} {ys : List β} {k : Nat} {y : β}, All2 P xs ys → ys[k]? = some y → ∃ x, xs[k]? = some x ∧ P x y
  | _, _, _, _, .nil, e => by simp at e
  | _, _, 0, _, .cons h _, e => by simp at e; subst e; exact ⟨_, rfl, h⟩
  | _, _, k + 1, _, .cons _ r, e => by simpa using r.get (k := k) (by simpa using e)
theorem All2.mem {α β : Type} {P : α → β → Prop} : ∀ {xs : List α} {ys : List β} {y : β}, All2 P xs ys → y ∈ ys → ∃ x ∈ xs, P x y
  | _, _, _, .nil, h => by simp at h
  | _, _, _, .cons (x := x) h r, e => (List.mem_cons.mp e).elim (fun q => ⟨x, List.mem_cons_self, by rw [q]; exact h⟩) fun q => let ⟨x', h1, h2⟩ := r.mem q; ⟨x', List.mem_cons_of_mem _ h1, h2⟩
/-- .. each worth a thing of some kind -/
theorem lcL_mk {α : Type} (f : α → D) (P : TD → α → Prop) {fe : FE} {s : TD → Ev → Option Ev} {env : Ev} : ∀ {rs : List TD}, (∀ r ∈ rs, Ok (s r env) fun e => Ok (fe e) fun y => ∃ a, y = (.N, f a) ∧ P r a) →
    ∃ as : List α, lcL sYes fe s env rs = some (as.map fun a => (Tg.N, f a)) ∧ All2 P rs as
  | [], _ => ⟨[], rfl, .nil⟩
  | r :: rs, h => by
    obtain ⟨e, q1, y, q2, a, rfl, q4⟩ := h r List.mem_cons_self
    obtain ⟨as, q5, q7⟩ := lcL_mk f P (rs := rs) fun r hr => h r (List.mem_cons_of_mem _ hr)
    refine ⟨a :: as, ?_, .cons q4 q7⟩
    unfold lcL
    rw [q1, q5]
    simp [q2, okT]
@[simp] theorem map_snd {α : Type} (xs : List α) (F : α → D) : (xs.map fun r => (Tg.N, F r)).map (fun x : TD => x.2) = xs.map F := by
  rw [List.map_map]; rfl
@[simp] theorem map_snd' {α : Type} (xs : List α) (F : α → D) : xs.map ((fun x : TD => x.2) ∘ fun r => (Tg.N, F r)) = xs.map F := rfl
@[simp] theorem map_nmN {α : Type} (xs : List α) (F : α → D) : (xs.map F).map (fun d => nm (Tg.N, d)) = xs.map fun r => (Tg.N, F r) := by
  rw [List.map_map]; simp [Function.comp_def]
@[simp] theorem tagL_Ns (ds : List D) : tagL (ds.map fun d => (Tg.N, d)) = .N := tagL_N fun r hr => by
  obtain ⟨d, _, rfl⟩ := List.mem_map.mp hr
  rfl
@[simp] theorem tagL_NF {α : Type} (xs : List α) (F : α → D) : tagL (xs.map fun r => (Tg.N, F r)) = .N := tagL_N fun r hr => by
  obtain ⟨d, _, rfl⟩ := List.mem_map.mp hr
  rfl
end
end Vf
namespace Vf
open PySem L2
/-! worths that change the table and may end in an exception -/
inductive XRes (α : Type) where | val (x : α) (T : Tb) | exc (c : Str) (ns : List Str) (xs : List HV) (T : Tb)
abbrev XF (α : Type) := Ev → Option (XRes α)
abbrev FX := XF HV
abbrev FXA := XF (List HV)
abbrev FXT := XF Bool
def kX {α β : Type} (k : α → Tb → Option (XRes β)) : XRes α → Option (XRes β)
  | .val x T => k x T
  | .exc c ns xs T => some (.exc c ns xs T)
def bX {α β : Type} (o : Option (XRes α)) (k : α → Tb → Option (XRes β)) : Option (XRes β) := o.bind (kX k)
/-- the exception's object, as it stands -/
def ExOk (Z : Zc) (w : Wd) (cls : Value) (d : Option Addr) (c : Str) (ns : List Str) (xs : List HV) : Prop :=
  ∃ C, Z.cl c = some C ∧ cls = .ref C ∧ ((ns = [] ∧ d = none) ∨ ∃ dx vs, d = some dx ∧ w.H dx = some (.xd (ns.zip vs)) ∧ vs.length = ns.length ∧ HvsOk Z w vs xs)
def XW (Z : Zc) (W : WX) (s : List Sl) (σ : L2.St) (w : Wd) (c : Str) (ns : List Str) (xs : List HV) (T : Tb) : Prop :=
  ∀ cls d w', Gs w w' → Wok Z ⟨s, T⟩ σ w' → ExOk Z w' cls d c ns xs → W cls d σ w'.H
def Fin {α : Type} (Z : Zc) (W : WX) (s : List Sl) (σ : L2.St) (w : Wd) (P : α → Tb → Prop) : XRes α → Prop
  | .val x T => P x T
  | .exc c ns xs T => XW Z W s σ w c ns xs T
def PvX (Z : Zc) (s : List Sl) (σ : L2.St) (w : Wd) (Q : VK) (x : HV) (T : Tb) : Prop := ∀ v w', Gs w w' → Wok Z ⟨s, T⟩ σ w' → HvOk Z w' v x → Q v w'.H
def tX (Z : Zc) (W : WX) (f : FX) : TE := fun σ H Q => ∃ env w r, w.H = H ∧ Wok Z env σ w ∧ f env = some r ∧ Fin Z W env.s σ w (PvX Z env.s σ w Q) r
def PaX (Z : Zc) (s : List Sl) (σ : L2.St) (w : Wd) (Q : List V → Hp → Prop) (xs : List HV) (T : Tb) : Prop := ∀ vs w', Gs w w' → Wok Z ⟨s, T⟩ σ w' → HvsOk Z w' vs xs → Q vs w'.H
def tXA (Z : Zc) (W : WX) (f : FXA) : TA := fun σ H Q => ∃ env w r, w.H = H ∧ Wok Z env σ w ∧ f env = some r ∧ Fin Z W env.s σ w (PaX Z env.s σ w Q) r
def PtX (Z : Zc) (s : List Sl) (σ : L2.St) (w : Wd) (Q : Bool → Hp → Prop) (b : Bool) (T : Tb) : Prop := ∀ w', Gs w w' → Wok Z ⟨s, T⟩ σ w' → Q b w'.H
def tXT (Z : Zc) (W : WX) (f : FXT) : TT := fun σ H Q => ∃ env w r, w.H = H ∧ Wok Z env σ w ∧ f env = some r ∧ Fin Z W env.s σ w (PtX Z env.s σ w Q) r
section
variable {α β : Type} {Z : Zc} {W : WX} {s : List Sl} {σ : L2.St} {w w' : Wd} {c : Str} {ns : List Str} {xs : List HV} {T : Tb} {P : α → Tb → Prop} {P' : β → Tb → Prop} {r : XRes α} {q : XRes β} {env : Ev} {Q : VK}
theorem XW.mono (g : Gs w w') (h : XW Z W s σ w c ns xs T) : XW Z W s σ w' c ns xs T := fun cls d w2 g2 k e => h cls d w2 (g.trans g2) k e
/-- what is asked of the end, asked later -/
def Late (Z : Zc) (W : WX) (s : List Sl) (σ : L2.St) (w : Wd) (q : XRes β) : Prop := ∀ c ns xs T, q = .exc c ns xs T → XW Z W s σ w c ns xs T
theorem Fin.late (h : Fin Z W s σ w P' q) : Late Z W s σ w q := fun c ns xs T e => by subst e; exact h
theorem Late.mono (g : Gs w w') (h : Late Z W s σ w q) : Late Z W s σ w' q := fun c ns xs T e => (h c ns xs T e).mono g
theorem Late.fin (h : Late Z W s σ w q) (hv : ∀ x T, q = .val x T → P' x T) : Fin Z W s σ w P' q := by
  cases q with
  | val x T => exact hv x T rfl
  | exc c ns xs T => exact h c ns xs T rfl
theorem kX_cases {o : Option (XRes α)} {k : α → Tb → Option (XRes β)} (h : bX o k = some q) : (∃ x T, o = some (.val x T) ∧ k x T = some q) ∨ ∃ c ns xs T, o = some (.exc c ns xs T) ∧ q = .exc c ns xs T := by
  obtain ⟨r, h1, h2⟩ := Option.bind_eq_some_iff.mp h
  cases r with
  | val x T => exact .inl ⟨x, T, h1, h2⟩
  | exc c ns xs T => cases h2; exact .inr ⟨c, ns, xs, T, h1, rfl⟩
theorem bX_fin {o : Option (XRes α)} {k : α → Tb → Option (XRes β)} (h : bX o k = some q) (l : Late Z W s σ w q) (hv : ∀ x T, k x T = some q → P x T) : ∃ r, o = some r ∧ Fin Z W s σ w P r := by
  rcases kX_cases h with ⟨x, T, h1, h2⟩ | ⟨c, ns, xs, T, h1, h2⟩
  · exact ⟨_, h1, hv x T h2⟩
  · exact ⟨_, h1, l c ns xs T h2⟩
theorem tX_bind {f : FX} {k : HV → Tb → Option (XRes β)} (kk : Wok Z env σ w) (h : bX (f env) k = some q) (l : Late Z W env.s σ w q)
    (hq : ∀ x T v w1, k x T = some q → Gs w w1 → Wok Z ⟨env.s, T⟩ σ w1 → HvOk Z w1 v x → Q v w1.H) : tX Z W f σ w.H Q := by
  obtain ⟨r, h1, h2⟩ := bX_fin (P := PvX Z env.s σ w Q) h l fun x T hk v w1 g k1 hx => hq x T v w1 hk g k1 hx
  exact ⟨env, w, r, rfl, kk, h1, h2⟩
theorem tXA_bind {f : FXA} {k : List HV → Tb → Option (XRes β)} {Q : List V → Hp → Prop} (kk : Wok Z env σ w) (h : bX (f env) k = some q) (l : Late Z W env.s σ w q)
    (hq : ∀ x T v w1, k x T = some q → Gs w w1 → Wok Z ⟨env.s, T⟩ σ w1 → HvsOk Z w1 v x → Q v w1.H) : tXA Z W f σ w.H Q := by
  obtain ⟨r, h1, h2⟩ := bX_fin (P := PaX Z env.s σ w Q) h l fun x T hk v w1 g k1 hx => hq x T v w1 hk g k1 hx
  exact ⟨env, w, r, rfl, kk, h1, h2⟩
theorem tXT_bind {f : FXT} {k : Bool → Tb → Option (XRes β)} {Q : Bool → Hp → Prop} (kk : Wok Z env σ w) (h : bX (f env) k = some q) (l : Late Z W env.s σ w q)
    (hq : ∀ x T w1, k x T = some q → Gs w w1 → Wok Z ⟨env.s, T⟩ σ w1 → Q x w1.H) : tXT Z W f σ w.H Q := by
  obtain ⟨r, h1, h2⟩ := bX_fin (P := PtX Z env.s σ w Q) h l fun x T hk w1 g k1 => hq x T w1 hk g k1
  exact ⟨env, w, r, rfl, kk, h1, h2⟩
end
/-! what stands in the table, as a tree -/
def mapO {α β : Type} (f : α → Option β) : List α → Option (List β)
  | [] => some []
  | x :: xs => (f x).bind fun y => (mapO f xs).map fun ys => y :: ys
def snapM (f : HV → Option D) : Mob → Option D
  | .lst xs => (mapO f xs).map .lst
  | .tup xs => (mapO f xs).map .tup
  | .ins c fs xs => (mapO f xs).map (.ins c fs)
  | .dic ks xs => (mapO f xs).map (.dic ks)
def snapN (T : Tb) : Nat → HV → Option D
  | _, .pu d => some d
  | 0, .ob _ => none
  | n + 1, .ob k => match T[k]? with
    | some (some M) => snapM (snapN T n) M
    | _ => none
def tdX (T : Tb) : HV → Option TD
  | .pu d => some (.N, d)
  | .ob k => (snapN T 9 (.ob k)).map fun d => (.T, d)
theorem mapO_rp {Z : Zc} {w : Wd} {f : HV → Option D} (hf : ∀ v x d, HvOk Z w v x → f x = some d → Rp Z w.H v d) : ∀ {vs : List V} {xs : List HV} {ds : List D}, HvsOk Z w vs xs → mapO f xs = some ds → RpL Z w.H vs ds
  | [], [], _, _, e => by cases e; exact .nil
  | v :: vs, x :: xs, ds, ⟨h, r⟩, e => by
    obtain ⟨y, h1, h2⟩ := Option.bind_eq_some_iff.mp e
    obtain ⟨ys, h3, rfl⟩ := Option.map_eq_some_iff.mp h2
    exact .cons (hf _ _ _ h h1) (mapO_rp hf r h3)
  | [], _ :: _, _, h, _ => h.elim
  | _ :: _, [], _, h, _ => h.elim
theorem snap_rp {Z : Zc} {T : Tb} {w : Wd} (hw : Wf w) (t : TbOk Z T w) : ∀ (n : Nat) (v : V) (x : HV) (d : D), HvOk Z w v x → snapN T n x = some d → Rp Z w.H v d
  | 0, v, .pu d', d, h, e => by cases e; exact Rp.mono hw.nh h
  | n + 1, v, .pu d', d, h, e => by cases e; exact Rp.mono hw.nh h
  | 0, _, .ob _, _, _, e => by cases e
  | n + 1, v, .ob k, d, h, e => by
    unfold snapN at e
    split at e
    · rename_i M ej
      obtain ⟨a, rfl, h1⟩ := h
      obtain ⟨a', h2, h3, h4⟩ := t.at_ k M ej
      rw [h1] at h2
      cases h2
      have ih := fun v x d => snap_rp hw t n v x d
      cases M with
      | lst xs =>
        obtain ⟨ds, e1, rfl⟩ := Option.map_eq_some_iff.mp e
        obtain ⟨vs, e2, e3⟩ := h4
        exact .lst e2 (mapO_rp ih e3 e1)
      | tup xs =>
        obtain ⟨ds, e1, rfl⟩ := Option.map_eq_some_iff.mp e
        obtain ⟨vs, e2, e3⟩ := h4
        exact .tup (.of e2) (mapO_rp ih e3 e1)
      | ins c fs xs =>
        obtain ⟨ds, e1, rfl⟩ := Option.map_eq_some_iff.mp e
        obtain ⟨C, dx, vs, e2, e3, e4, e5⟩ := h4
        exact .ins e2 e3 e4 (mapO_rp ih e5 e1)
      | dic ks xs =>
        obtain ⟨ds, e1, rfl⟩ := Option.map_eq_some_iff.mp e
        obtain ⟨vs, e2, e3, e4⟩ := h4
        exact .dic (.inl e2) e3 (mapO_rp ih e4 e1)
    · cases e
theorem td_rv {Z : Zc} {T : Tb} {w : Wd} (hw : Wf w) (t : TbOk Z T w) {v : V} {x : HV} {r : TD} (h : HvOk Z w v x) (e : tdX T x = some r) : RV Z w r v := by
  cases x with
  | pu d => cases e; exact h
  | ob k =>
    obtain ⟨d, e1, rfl⟩ := Option.map_eq_some_iff.mp e
    exact snap_rp hw t 9 v (.ob k) d h e1
theorem tds_rv {Z : Zc} {T : Tb} {w : Wd} (hw : Wf w) (t : TbOk Z T w) : ∀ {vs : List V} {xs : List HV} {rs : List TD}, HvsOk Z w vs xs → mapO (tdX T) xs = some rs → RVs Z w rs vs
  | [], [], _, _, e => by cases e; exact trivial
  | v :: vs, x :: xs, rs, ⟨h, r⟩, e => by
    obtain ⟨y, h1, h2⟩ := Option.bind_eq_some_iff.mp e
    obtain ⟨ys, h3, rfl⟩ := Option.map_eq_some_iff.mp h2
    exact ⟨td_rv hw t h h1, tds_rv hw t r h3⟩
  | [], _ :: _, _, h, _ => h.elim
  | _ :: _, [], _, h, _ => h.elim
/-- a pure end: it may be handed on -/
def resX (r : TD) (T : Tb) : Option (XRes HV) := if r.1 = .N then some (.val (.pu r.2) T) else none
theorem resX_some {r : TD} {T : Tb} {q : XRes HV} (h : resX r T = some q) : r.1 = .N ∧ q = .val (.pu r.2) T := by
  unfold resX at h
  split at h
  · rename_i hh
    cases h
    exact ⟨hh, rfl⟩
  · cases h
theorem resX_ok {Z : Zc} {W : WX} {s : List Sl} {σ : L2.St} {w w1 w2 : Wd} {Q : VK} {r : TD} {T : Tb} {q : XRes HV} {v : V} (h : resX r T = some q) (l : Fin Z W s σ w (PvX Z s σ w Q) q) (g : Gs w w1) (k1 : Wok Z ⟨s, T⟩ σ w1) (g2 : Gr w1 w2) (hr : RV Z w2 r v) : Q v w2.H := by
  obtain ⟨h1, rfl⟩ := resX_some h
  obtain ⟨t, d⟩ := r
  have h1 : t = .N := h1
  subst h1
  exact l v w2 (g.trans (g2.gs k1.wf)) (k1.mono g2) hr
end Vf
namespace Vf
open PySem L2
/-! ### expressions -/
def xE (f : FE) : FX := fun env => (f env).bind fun r => resX r env.t
def xH (h : FH) : FX := fun env => (h env).map fun x => .val x env.t
def opX (o : TD → TD → Option TD) (x y : HV) (T : Tb) : Option (XRes HV) := (tdX T x).bind fun a => (tdX T y).bind fun b => (o a b).bind fun r => resX r T
def xOp (o : TD → TD → Option TD) (f g : FX) : FX := fun env => bX (f env) fun x T1 => bX (g ⟨env.s, T1⟩) fun y T2 => opX o x y T2
def unX (o : TD → Option TD) (x : HV) (T : Tb) : Option (XRes HV) := (tdX T x).bind fun a => (o a).bind fun r => resX r T
def xUn (o : TD → Option TD) (f : FX) : FX := fun env => bX (f env) (unX o)
def boolX (x : HV) : Option Bool := match x with | .pu (.bl b) => some b | _ => none
def xNotV (f : FX) : FX := fun env => bX (f env) fun x T => (boolX x).map fun b => .val (.pu (.bl (!b))) T
def xAndV (f g : FX) : FX := fun env => bX (f env) fun x T => (boolX x).bind fun b => if b then g ⟨env.s, T⟩ else some (.val (.pu (.bl false)) T)
def xOrV (f g : FX) : FX := fun env => bX (f env) fun x T => (boolX x).bind fun b => if b then some (.val (.pu (.bl true)) T) else g ⟨env.s, T⟩
def truX (T : Tb) (x : HV) : Option Bool := match x with
  | .pu d => tru (.N, d)
  | .ob k => match T[k]? with
    | some (some (.lst xs)) => some (!xs.isEmpty)
    | some (some (.tup xs)) => some (!xs.isEmpty)
    | _ => none
def xTru (f : FX) : FXT := fun env => bX (f env) fun x T => (truX T x).map fun b => .val b T
def xBl (f : FX) : FXT := fun env => bX (f env) fun x T => (boolX x).map fun b => .val b T
def xNotT (c : FXT) : FXT := fun env => bX (c env) fun b T => some (.val (!b) T)
def xAndT (c d : FXT) : FXT := fun env => bX (c env) fun b T => if b then d ⟨env.s, T⟩ else some (.val false T)
def xOrT (c d : FXT) : FXT := fun env => bX (c env) fun b T => if b then some (.val true T) else d ⟨env.s, T⟩
def xIfe (c : FXT) (f g : FX) : FX := fun env => bX (c env) fun b T => if b then f ⟨env.s, T⟩ else g ⟨env.s, T⟩
def xNil : FXA := fun env => some (.val [] env.t)
def xCons (f : FX) (g : FXA) : FXA := fun env => bX (f env) fun x T => bX (g ⟨env.s, T⟩) fun xs T2 => some (.val (x :: xs) T2)
def bK (o : List TD → Option TD) (xs : List HV) (T : Tb) : Option (XRes HV) := (mapO (tdX T) xs).bind fun rs => (o rs).bind fun r => resX r T
def xB (o : List TD → Option TD) (fa : FXA) : FX := fun env => bX (fa env) (bK o)
/-- a call of a pure def -/
def pK (g : List TD → Option TD) (xs : List HV) (T : Tb) : Option (XRes HV) := (mapO (tdX T) xs).bind fun rs => (g (rs.map dn)).bind fun r => resX (up r) T
def xCallP (g : List TD → Option TD) (fa : FXA) : FX := fun env => bX (fa env) (pK g)
section
variable {X : Cx} {cl : Str → Option Addr} {W : WX} {a b c e : Expr} {es : List Expr} {f g h : FX} {fa : FXA} {ct dt : FXT} {pos : Pos}
theorem jx_e {f : FE} (he : PE X e (tE (zx X cl) f)) : PE X e (tX (zx X cl) W (xE f)) := by
  refine pe_w he fun σ H Q ⟨env, w, r, e, k, hr, q⟩ => ?_
  subst e
  obtain ⟨x, h1, h2⟩ := Option.bind_eq_some_iff.mp hr
  exact ⟨env, w, x, rfl, k, h1, fun v w' g rv => resX_ok h2 q (Gs.refl k.wf) k g rv⟩
theorem jx_h {h : FH} (he : PE X e (tH (zx X cl) h)) : PE X e (tX (zx X cl) W (xH h)) := by
  refine pe_w he fun σ H Q ⟨env, w, r, e, k, hr, q⟩ => ?_
  subst e
  obtain ⟨x, h1, rfl⟩ := Option.map_eq_some_iff.mp hr
  exact ⟨env, w, x, rfl, k, h1, fun v w' g hv => q v w' (g.gs k.wf) (k.mono g) hv⟩
theorem xOp_rd {o : TD → TD → Option TD} {σ : L2.St} {H : Hp} {Q : VK} {Z : Zc} (hh : tX Z W (xOp o f g) σ H Q) : tOp (rO Z o) (tX Z W f) (tX Z W g) σ H Q := by
  obtain ⟨env, w, r, e, k, h, q⟩ := hh
  subst e
  show tX Z W f σ w.H _
  refine tX_bind k h q.late fun x T1 v w1 h1 g1 k1 hx => ?_
  refine tX_bind k1 h1 (q.late.mono g1) fun y T2 u w2 h2 g2 k2 hy => ?_
  obtain ⟨ra, e1, h3⟩ := Option.bind_eq_some_iff.mp h2
  obtain ⟨rb, e2, h4⟩ := Option.bind_eq_some_iff.mp h3
  obtain ⟨z, e3, h5⟩ := Option.bind_eq_some_iff.mp h4
  exact ⟨w2, ra, rb, z, rfl, k2.wf, td_rv k2.wf k2.tb (hx.mono g2.n g2.m) e1, td_rv k2.wf k2.tb hy e2, e3, fun v' w3 g3 r3 => resX_ok h5 q (g1.trans g2) k2 g3 r3⟩
theorem jx_op {op : Operator} {o : TD → TD → Option TD} (ho : OpR X (binaryOp op) (rO (zx X cl) o)) (ha : PE X a (tX (zx X cl) W f)) (hb : PE X b (tX (zx X cl) W g)) : PE X (.BinOp a op b pos) (tX (zx X cl) W (xOp o f g)) :=
  pe_w (pe_op ho ha hb) fun _ _ _ hh => xOp_rd hh
theorem jx_cmp {op : CmpOp} {o : TD → TD → Option TD} (ho : OpR X (compareOp op) (rO (zx X cl) o)) (ha : PE X a (tX (zx X cl) W f)) (hb : PE X b (tX (zx X cl) W g)) (hm : behindInMarks op b = false := by first | exact nomark _ | rfl) : PE X (.Compare a [op] [b] pos) (tX (zx X cl) W (xOp o f g)) :=
  pe_w (pe_cmpR ho ha hb hm) fun _ _ _ hh => xOp_rd hh
theorem bool_hv {Z : Zc} {w : Wd} {v : V} {x : HV} {b : Bool} (h : HvOk Z w v x) (e : boolX x = some b) : v = .bl b := by
  unfold boolX at e
  split at e
  · cases e
    exact rp_val (d := .bl _) rfl h
  · cases e
theorem tru_hv {Z : Zc} {T : Tb} {w : Wd} (hw : Wf w) (t : TbOk Z T w) {v : V} {x : HV} {b : Bool} (h : HvOk Z w v x) (e : truX T x = some b) : TruV Z.K v w.H b := by
  cases x with
  | pu d => exact tru_v (r := (.N, d)) hw e h
  | ob k =>
    unfold truX at e
    dsimp only at e
    obtain ⟨p, rfl, h1⟩ := h
    split at e
    · rename_i xs ej
      cases e
      obtain ⟨a', h2, h3, vs, h4, h5⟩ := t.at_ k _ ej
      rw [h1] at h2
      cases h2
      refine .inl ⟨vs, SqL.of h4, ?_⟩
      have hl := h5.length
      cases vs <;> cases xs <;> first | rfl | (simp at hl)
    · rename_i xs ej
      cases e
      obtain ⟨a', h2, h3, vs, h4, h5⟩ := t.at_ k _ ej
      rw [h1] at h2
      cases h2
      refine .inr (.inl ⟨vs, .of h4, ?_⟩)
      have hl := h5.length
      cases vs <;> cases xs <;> first | rfl | (simp at hl)
    · cases e
theorem jx_and1 (ha : PE X a (tX (zx X cl) W f)) : PE X (.BoolOp .And [a] pos) (tX (zx X cl) W f) := pe_one ha
/-- the rest of an expression, by its own reading -/
theorem tX_rest {Z : Zc} {s : List Sl} {σ : L2.St} {w w1 : Wd} {Q : VK} {T : Tb} {q : XRes HV} (h : f ⟨s, T⟩ = some q) (l : Fin Z W s σ w (PvX Z s σ w Q) q) (g : Gs w w1) (k : Wok Z ⟨s, T⟩ σ w1) : tX Z W f σ w1.H Q :=
  ⟨⟨s, T⟩, w1, q, rfl, k, h, (l.late.mono g).fin fun x T' e => by subst e; exact fun v w' g' k' hv => l v w' (g.trans g') k' hv⟩
theorem jx_and (ha : PE X a (tX (zx X cl) W f)) (hb : PE X (.BoolOp .And (b :: es) pos) (tX (zx X cl) W g)) : PE X (.BoolOp .And (a :: b :: es) pos) (tX (zx X cl) W (xAndV f g)) := by
  refine pe_w (pe_and ha hb) fun σ H Q ⟨env, w, r, e, k, h, q⟩ => ?_
  subst e
  refine tX_bind k h q.late fun x T1 v w1 h1 g1 k1 hx => ?_
  obtain ⟨y, e1, h2⟩ := Option.bind_eq_some_iff.mp h1
  refine ⟨y, bool_hv hx e1, ?_⟩
  cases y with
  | true => exact tX_rest h2 q g1 k1
  | false =>
    cases h2
    exact q _ w1 g1 k1 (.bl _)
/-! tests -/
theorem jxt_v (ha : PE X a (tX (zx X cl) W f)) (he : ∀ whole, isTrue a X.env whole = (do let v ← whole; standAt a.pos; holding [v] (truthy v)) := by intro _; rfl) : PT X a (tXT (zx X cl) W (xTru f)) := by
  refine pt_w (pt_truth ha he) fun σ H Q ⟨env, w, r, e, k, h, q⟩ => ?_
  subst e
  refine tX_bind k h q.late fun x T1 v w1 h1 g1 k1 hx => ?_
  obtain ⟨y, e1, rfl⟩ := Option.map_eq_some_iff.mp h1
  exact ⟨y, tru_hv k1.wf k1.tb hx e1, q w1 g1 k1⟩
theorem jxt_cmp {op : CmpOp} {o : TD → TD → Option TD} (ho : OpR X (compareOp op) (rO (zx X cl) o)) (ha : PE X a (tX (zx X cl) W f)) (hb : PE X b (tX (zx X cl) W g)) (hm : behindInMarks op b = false := by first | exact nomark _ | rfl) : PT X (.Compare a [op] [b] pos) (tXT (zx X cl) W (xBl (xOp o f g))) := by
  refine pt_w (pt_cmpR ho ha hb hm) fun σ H Q ⟨env, w, r, e, k, h, q⟩ => ?_
  subst e
  refine xOp_rd (Z := zx X cl) (Q := fun x H' => ∃ k, x = .bl k ∧ Q k H') ?_
  refine tX_bind k h q.late fun x T1 v w1 h1 g1 k1 hx => ?_
  obtain ⟨y, e1, rfl⟩ := Option.map_eq_some_iff.mp h1
  exact ⟨y, bool_hv hx e1, q w1 g1 k1⟩
theorem jxt_not (ha : PT X a (tXT (zx X cl) W ct)) : PT X (.UnaryOp .Not a pos) (tXT (zx X cl) W (xNotT ct)) := by
  refine pt_w (pt_not ha) fun σ H Q ⟨env, w, r, e, k, h, q⟩ => ?_
  subst e
  refine tXT_bind k h q.late fun x T1 w1 h1 g1 k1 => ?_
  cases h1
  exact q w1 g1 k1
theorem jxw_and1 (ha : PT X a (tXT (zx X cl) W ct)) : PW X (.BoolOp .And [a] pos) (tXT (zx X cl) W ct) := pw_and1 ha
theorem jxw_or1 (ha : PT X a (tXT (zx X cl) W ct)) : PW X (.BoolOp .Or [a] pos) (tXT (zx X cl) W ct) := pw_or1 ha
theorem tXT_rest {Z : Zc} {s : List Sl} {σ : L2.St} {w w1 : Wd} {Q : Bool → Hp → Prop} {T : Tb} {q : XRes Bool} (h : ct ⟨s, T⟩ = some q) (l : Fin Z W s σ w (PtX Z s σ w Q) q) (g : Gs w w1) (k : Wok Z ⟨s, T⟩ σ w1) : tXT Z W ct σ w1.H Q :=
  ⟨⟨s, T⟩, w1, q, rfl, k, h, (l.late.mono g).fin fun x T' e => by subst e; exact fun w' g' k' => l w' (g.trans g') k'⟩
theorem jxw_and (ha : PT X a (tXT (zx X cl) W ct)) (hb : PW X (.BoolOp .And (b :: es) pos) (tXT (zx X cl) W dt)) : PW X (.BoolOp .And (a :: b :: es) pos) (tXT (zx X cl) W (xAndT ct dt)) := by
  refine pw_w (pw_and ha hb) fun σ H Q ⟨env, w, r, e, k, h, q⟩ => ?_
  subst e
  refine tXT_bind k h q.late fun x T1 w1 h1 g1 k1 => ?_
  cases x with
  | true => exact tXT_rest h1 q g1 k1
  | false =>
    cases h1
    exact q w1 g1 k1
theorem jxw_or (ha : PT X a (tXT (zx X cl) W ct)) (hb : PW X (.BoolOp .Or (b :: es) pos) (tXT (zx X cl) W dt)) : PW X (.BoolOp .Or (a :: b :: es) pos) (tXT (zx X cl) W (xOrT ct dt)) := by
  refine pw_w (pw_or ha hb) fun σ H Q ⟨env, w, r, e, k, h, q⟩ => ?_
  subst e
  refine tXT_bind k h q.late fun x T1 w1 h1 g1 k1 => ?_
  cases x with
  | false => exact tXT_rest h1 q g1 k1
  | true =>
    cases h1
    exact q w1 g1 k1
theorem jxt_w (ha : PW X a (tXT (zx X cl) W ct)) : PT X a (tXT (zx X cl) W ct) := ha.pt
/-! arguments, calls -/
theorem jxa_nil : PA X [] (tXA (zx X cl) W xNil) := ⟨fun ps pins s σ H Q I ⟨env, w, r, e, k, hr, q⟩ => pa_nil.run ps pins s σ H Q I (by
  subst e
  cases hr
  exact q [] w (Gs.refl k.wf) k trivial)⟩
theorem jxa_cons (ha : PE X a (tX (zx X cl) W f)) (hr : PA X es (tXA (zx X cl) W fa)) (hs : starEach (a :: es) X.env = (false, eval a X.env) :: starEach es X.env := by rfl) : PA X (a :: es) (tXA (zx X cl) W (xCons f fa)) := by
  refine pa_w (pa_cons ha hr hs) fun σ H Q ⟨env, w, r, e, k, h, q⟩ => ?_
  subst e
  refine tX_bind k h q.late fun x T1 v w1 h1 g1 k1 hx => ?_
  refine tXA_bind k1 h1 (q.late.mono g1) fun xs T2 vs w2 h2 g2 k2 hxs => ?_
  cases h2
  exact q _ w2 (g1.trans g2) k2 ⟨hx.mono g2.n g2.m, hxs⟩
/-- f(..), f a pure def -/
theorem jx_callP {x : Str} {p : Pos} {ps : List Str} {gg : List TD → Option TD} {k j : Nat} (C : Ca X.prog X.w X.K X.mg X.base cl k x ps gg) (hr : Room j X.A) (ha : PA X (a :: es) (tXA (zx X cl) W fa)) (hkj : k ≤ j := by decide) (hg : Gl X x := by rfl) (hdb : (x == ("__debug__" : Str)) = false := by decide)
    (he : starEach (a :: es) X.env = (false, eval a X.env) :: starEach es X.env := by rfl) (hpl : (backTo pos (starEach es X.env)).any (·.1) = false := by rfl) : PE X (.Call (.Name x p) (a :: es) [] pos) (tX (zx X cl) W (xCallP gg fa)) := by
  obtain ⟨f, fd, F, hm, hk, hb, _⟩ := C.ex
  refine pe_w (pe_call F (hr.mono hkj) hg hm hk hb .nil pass0 ha hdb he hpl) fun σ H Q ⟨env, w, r, e, kk, h, q⟩ => ?_
  subst e
  refine tXA_bind kk h q.late fun xs T1 vs w1 h1 g1 k1 hxs => ?_
  obtain ⟨rs, e1, h2⟩ := Option.bind_eq_some_iff.mp h1
  obtain ⟨z, e2, h3⟩ := Option.bind_eq_some_iff.mp h2
  show spG (zx X cl) gg (vs ++ []) w1.H Q E0
  rw [List.append_nil]
  refine ⟨w1.N, rs.map dn, z, k1.wf.nh, dn_rvs k1.wf (tds_rv k1.wf k1.tb hxs e1), ?_, e2, C.ok _ _ e2, fun v w' g2 r2 => ?_⟩
  · rw [List.all_map, List.all_eq_true]
    exact fun x _ => dn_ok x
  · obtain ⟨w2, g3, e3, r3⟩ := up_rv k1.wf g2 (C.ok _ _ e2) r2
    rw [← e3]
    exact resX_ok h3 q g1 k1 g3 r3
end
end Vf
namespace Vf
open PySem L2
/-! ### objects of the table, defs that change it and may raise -/
theorem back_X {Z : Zc} {env : Ev} {σ : L2.St} {w1 : Wd} (k : Wok Z env σ w1) {Bc : Hp} (hB1 : ∀ a, a ∈ w1.m → Bc a = w1.B a) (hB2 : ∀ a, a ∉ w1.m → Bc a = w1.H a) {w' : Wd} (g : Gs ⟨w1.N, Bc, w1.H, w1.m⟩ w') {T' : Tb} (ht : TbOk Z T' w') :
    ∃ w2, w2.H = w'.H ∧ w2.N = w'.N ∧ w2.m = w'.m ∧ Gs w1 w2 ∧ Wok Z ⟨env.s, T'⟩ σ w2 := by
  have hbb : Same w1.B Bc := fun a o e => by
    by_cases q : a ∈ w1.m
    · rw [hB1 a q]; exact e
    · rw [hB2 a q]; exact k.wf.bh _ _ e
  have hbw : Same w1.B w'.B := hbb.trans g.b
  let B2 : Hp := fun a => match w1.B a with | some o => some o | none => w'.N a
  have b1 : Same w1.B B2 := fun a o e => by show (match w1.B a with | some o => some o | none => w'.N a) = _; rw [e]
  have b2 : Same w'.N B2 := fun a o e => by
    show (match w1.B a with | some o => some o | none => w'.N a) = _
    cases q : w1.B a with
    | none => exact e
    | some u => exact (hbw _ _ q).symm.trans (g.wf.nb _ _ e)
  have b3 : Same B2 w'.H := fun a o e => by
    have e' : (match w1.B a with | some o => some o | none => w'.N a) = some o := e
    cases q : w1.B a with
    | none => rw [q] at e'; exact g.wf.nh _ _ e'
    | some u =>
      rw [q] at e'
      cases e'
      exact g.wf.bh _ _ (hbw _ _ q)
  have nf : ∀ a, w'.N a ≠ none → w1.N a ≠ none ∨ w1.B a = none := fun a z => (g.fn a z).imp id fun q => hbb.free q
  have b0 : ∀ a, w1.B a = none → w'.N a = none → B2 a = none := fun a z1 z2 => by
    show (match w1.B a with | some o => some o | none => w'.N a) = _
    rw [z1]
    exact z2
  refine ⟨⟨w'.N, B2, w'.H, w'.m⟩, rfl, rfl, rfl, ⟨⟨b2, b3⟩, g.n, b1, nf, g.m, fun a z => (g.mf a z).imp id fun q => hbb.free q⟩, ⟨⟨b2, b3⟩, k.len, fun i s e => ?_, k.dj, ?_⟩⟩
  · obtain ⟨o, h1, h2⟩ := k.sl i s e
    refine ⟨o, h1, ?_⟩
    cases s with
    | un => exact trivial
    | val t d =>
      obtain ⟨u, e1, e2⟩ := h2
      exact ⟨u, e1, e2.imp (fun ⟨x, y⟩ => ⟨x, Rp.mono g.n y⟩) fun ⟨x, y⟩ => ⟨x, Rp.mono b1 y⟩⟩
    | han n =>
      obtain ⟨a, e1, e2⟩ := h2
      refine ⟨a, e1, ?_⟩
      obtain ⟨l, hl⟩ := g.m
      show w'.m[n]? = _
      rw [← hl, List.getElem?_append_left (List.getElem?_eq_some_iff.mp e2).1]
      exact e2
    | own ds =>
      obtain ⟨p, vs, e1, h3, h4, h5, h6⟩ := h2
      have hb : Bc p = some (.lst vs) := (hB2 p h5).trans h3
      have hb' : w'.B p = some (.lst vs) := g.b _ _ hb
      have hn : w'.N p = none := by
        cases q : w'.N p with
        | none => rfl
        | some u =>
          rcases g.fn p (by rw [q]; exact fun z => nomatch z) with z | z
          · exact (z (k.wf.nb.free h4)).elim
          · have z : Bc p = none := z
            rw [hb] at z
            cases z
      refine ⟨p, vs, e1, g.wf.bh _ _ hb', b0 p h4 hn, fun z => ?_, RpL.mono g.n h6⟩
      rcases g.mf p z with z | z
      · exact h5 z
      · have z : Bc p = none := z
        rw [hb] at z
        cases z
  · refine ⟨ht.len, ht.nd, ht.hh, fun n M e => ?_⟩
    obtain ⟨a, h1, h2, h3⟩ := ht.at_ n M e
    exact ⟨a, h1, b0 a (hbw.free h2) (g.wf.nb.free h2), MobOk.mono (w := w') (w' := ⟨w'.N, B2, w'.H, w'.m⟩) (.refl _) (List.prefix_refl _) (fun _ z => z) h3⟩
theorem ExOk.same {Z : Zc} {w w' : Wd} {cls : Value} {d : Option Addr} {c : Str} {ns : List Str} {xs : List HV} (hH : w'.H = w.H) (hN : w'.N = w.N) (hm : w'.m = w.m) (h : ExOk Z w cls d c ns xs) : ExOk Z w' cls d c ns xs := by
  obtain ⟨C, h1, h2, h3⟩ := h
  refine ⟨C, h1, h2, h3.imp id fun ⟨dx, vs, e1, e2, e3, e4⟩ => ⟨dx, vs, e1, by rw [hH]; exact e2, e3, e4.mono (by rw [hN]; exact .refl _) (by rw [hm]; exact List.prefix_refl _)⟩⟩
/-- the promise of a def that sees the table and may raise -/
def spX (Z : Zc) (g : List HV → Tb → Option (XRes HV)) : Sp := fun vs H Q E => ∃ w xs T r, w.H = H ∧ Wf w ∧ TbOk Z T w ∧ HvsOk Z w vs xs ∧ g xs T = some r ∧
  (∀ x T', r = .val x T' → ∀ v w', Gs w w' → HvOk Z w' v x → TbOk Z T' w' → Q v w'.H) ∧ ∀ c ns ys T', r = .exc c ns ys T' → ∀ cls d w', Gs w w' → TbOk Z T' w' → ExOk Z w' cls d c ns ys → E cls d w'.H
theorem spX_at {Z : Zc} {W : WX} {σ : L2.St} {Q : VK} {env : Ev} {w : Wd} {xs : List HV} {vs : List V} {gg : List HV → Tb → Option (XRes HV)} {r : XRes HV} (k : Wok Z env σ w) (hv : HvsOk Z w vs xs) (h2 : gg xs env.t = some r) (q : Fin Z W env.s σ w (PvX Z env.s σ w Q) r) : spX Z gg vs w.H Q (WE W σ) := by
  have dec : ∀ a, Decidable (a ∈ w.m) := fun a => Classical.propDecidable _
  let Bc : Hp := fun a => if a ∈ w.m then w.B a else w.H a
  have hB1 : ∀ a, a ∈ w.m → Bc a = w.B a := fun a z => if_pos z
  have hB2 : ∀ a, a ∉ w.m → Bc a = w.H a := fun a z => if_neg z
  have wf : Wf ⟨w.N, Bc, w.H, w.m⟩ := by
    refine ⟨fun a o e => ?_, fun a o e => ?_⟩
    · by_cases z : a ∈ w.m
      · exact (hB1 a z).trans (k.wf.nb _ _ e)
      · exact (hB2 a z).trans (k.wf.nh _ _ e)
    · have e : Bc a = some o := e
      by_cases z : a ∈ w.m
      · exact k.wf.bh _ _ ((hB1 a z).symm.trans e)
      · exact (hB2 a z).symm.trans e
  have tb : TbOk Z env.t ⟨w.N, Bc, w.H, w.m⟩ := ⟨k.tb.len, k.tb.nd, k.tb.hh, fun n M e => by
    obtain ⟨a, h3, h4, h5⟩ := k.tb.at_ n M e
    exact ⟨a, h3, (hB1 a (List.mem_of_getElem? h3)).trans h4, MobOk.mono (w := w) (w' := ⟨w.N, Bc, w.H, w.m⟩) (.refl _) (List.prefix_refl _) (fun _ z => z) h5⟩⟩
  refine ⟨⟨w.N, Bc, w.H, w.m⟩, xs, env.t, r, rfl, wf, tb, HvsOk.mono (w := w) (w' := ⟨w.N, Bc, w.H, w.m⟩) (.refl _) (List.prefix_refl _) hv, h2, fun x T' e v w' g hx ht => ?_, fun c ns ys T' e cls d w' g ht hx => ?_⟩
  · subst e
    obtain ⟨w2, e2, eN, em, g2, k2⟩ := back_X k hB1 hB2 g ht
    rw [← e2]
    exact q v w2 g2 k2 (HvOk.mono (by rw [eN]; exact .refl _) (by rw [em]; exact List.prefix_refl _) hx)
  · subst e
    obtain ⟨w2, e2, eN, em, g2, k2⟩ := back_X k hB1 hB2 g ht
    show W cls d σ w'.H
    rw [← e2]
    exact q cls d w2 g2 k2 (hx.same e2 eN em)
structure CaX (P : Program) (w : World) (K : PySem.W.Frag) (mg : Str → Option Value) (base : Heap) (cl : Str → Option Addr) (k : Nat) (x : Str) (ps : List Str) (g : List HV → Tb → Option (XRes HV)) : Prop where
  ex : ∃ f fd, FnOk P w K mg base (L2.CX P w) k f fd ps (spX ⟨K, cl⟩ g) ∧ mg x = some (.ref f) ∧ PySem.W.keepIn K (.ref f) = true ∧ Binds K fd ps []
def xCall (g : List HV → Tb → Option (XRes HV)) (fa : FXA) : FX := fun env => bX (fa env) g
/-- a new object of the table -/
theorem new_ok {Z : Zc} {s : List Sl} {T : Tb} {σ : L2.St} {w : Wd} (k : Wok Z ⟨s, T⟩ σ w) {p : Addr} {o : HO} {M : Mob} (hp : w.H p = none) (hM : MobOk Z ⟨w.N, w.B, upd w.H p o, w.m⟩ p M) :
    ∃ w2, w2.H = upd w.H p o ∧ Gs w w2 ∧ Wok Z ⟨s, T ++ [some M]⟩ σ w2 ∧ HvOk Z w2 (.ref p) (.ob T.length) := by
  have gH : Same w.H (upd w.H p o) := same_up hp
  have g2 : Gr w ⟨w.N, w.B, upd w.H p o, w.m⟩ := ⟨⟨k.wf.nb, k.wf.bh.trans gH⟩, .refl _, .refl _, gH, fun _ z => .inl z, fun _ z => .inl z, rfl⟩
  obtain ⟨k2, g3⟩ := k.tnew g2 (p := p) (o := o) (M := M) hp upd_same (k.wf.bh.free hp) hM
  refine ⟨_, rfl, g3, k2, p, rfl, ?_⟩
  have hlen := k.tb.len
  have hlen : T.length = w.m.length := hlen
  show (w.m ++ [p])[T.length]? = _
  rw [hlen, List.getElem?_append_right (Nat.le_refl _)]
  simp
def tupK (xs : List HV) (T : Tb) : Option (XRes HV) := if xs.length ≤ lim then (match pures xs with
  | some ds => some (.val (.pu (.tup ds)) T)
  | none => some (.val (.ob T.length) (T ++ [some (.tup xs)]))) else none
def xTup (fa : FXA) : FX := fun env => bX (fa env) tupK
def lstK (xs : List HV) (T : Tb) : Option (XRes HV) := if xs.length ≤ lim then some (.val (.ob T.length) (T ++ [some (.lst xs)])) else none
def xLst (fa : FXA) : FX := fun env => bX (fa env) lstK
def fldX (cs : List Str) (n : Str) (x : HV) (T : Tb) : Option (XRes HV) := match x with
  | .pu (.ins c fs ds) => if c ∈ cs then ((fs.zip ds).lookup n).map fun d => .val (.pu d) T else none
  | .pu _ => none
  | .ob k => match T[k]? with
    | some (some (.ins c fs xs)) => if c ∈ cs then ((fs.zip xs).lookup n).map fun y => .val y T else none
    | _ => none
def xFld (cs : List Str) (n : Str) (f : FX) : FX := fun env => bX (f env) (fldX cs n)
def ixX (T : Tb) (x : HV) (i : Int) : Option HV := match x with
  | .pu d => (ixD (.N, d) i).bind fun r => if r.1 = .N then some (.pu r.2) else none
  | .ob k => match T[k]? with
    | some (some (.lst xs)) => atI xs i
    | some (some (.tup xs)) => atI xs i
    | some (some (.dic ks xs)) => dgt ks xs (.inl i)
    | _ => none
def ixXS (T : Tb) (x : HV) (z : Str) : Option HV := match x with
  | .pu d => (ixS (.N, d) z).bind fun r => if r.1 = .N then some (.pu r.2) else none
  | .ob k => match T[k]? with
    | some (some (.dic ks xs)) => dgt ks xs (.inr z)
    | _ => none
def ixA (T : Tb) (x : HV) (y : D) : Option HV := match y with
  | .int i => ixX T x i
  | .str z => ixXS T x z
  | _ => none
def ixK (x y : HV) (T : Tb) : Option (XRes HV) := match y with
  | .pu (.int i) => (ixX T x i).map fun z => .val z T
  | .pu (.str i) => (ixXS T x i).map fun z => .val z T
  | _ => none
def xIx (f g : FX) : FX := fun env => bX (f env) fun x T1 => bX (g ⟨env.s, T1⟩) fun y T2 => ixK x y T2
section
variable {X : Cx} {cl : Str → Option Addr} {W : WX} {a b c e : Expr} {es : List Expr} {f g h : FX} {fa : FXA} {ct dt : FXT} {pos : Pos} {gg : List HV → Tb → Option (XRes HV)} {ps : List Str} {k j : Nat}
theorem jx_call {x : Str} {p : Pos} (C : CaX X.prog X.w X.K X.mg X.base cl k x ps gg) (tk : Takes X W) (hr : Room j X.A) (ha : PA X (a :: es) (tXA (zx X cl) W fa)) (hkj : k ≤ j := by decide) (hg : Gl X x := by rfl) (hdb : (x == ("__debug__" : Str)) = false := by decide)
    (he : starEach (a :: es) X.env = (false, eval a X.env) :: starEach es X.env := by rfl) (hpl : (backTo pos (starEach es X.env)).any (·.1) = false := by rfl) : PE X (.Call (.Name x p) (a :: es) [] pos) (tX (zx X cl) W (xCall gg fa)) := by
  obtain ⟨f, fd, F, hm, hk, hb⟩ := C.ex
  refine pe_w (pe_callS F (hr.mono hkj) hg hm hk hb (fun σ => passAt tk σ) ha hdb he hpl) fun σ H Q ⟨env, w, r, e, kk, h, q⟩ => ?_
  subst e
  refine tXA_bind kk h q.late fun xs T1 vs w1 h1 g1 k1 hxs => ?_
  exact spX_at k1 hxs h1 ((q.late.mono g1).fin fun x T' e => by subst e; exact fun v w' g' k' hv => q v w' (g1.trans g') k' hv)
theorem jx_tup {x1 : Nat} (h : PA X es (tXA (zx X cl) W fa)) : PE X (.Tuple es x1 pos) (tX (zx X cl) W (xTup fa)) := by
  refine pe_w (pe_tup h) fun σ H Q ⟨env, w, r, e, kk, h, q⟩ => ?_
  subst e
  refine tXA_bind kk h q.late fun xs T1 vs w1 h1 g1 k1 hxs => ?_
  unfold tupK at h1
  split at h1
  · rename_i hl
    refine ⟨lim_le (by rw [hxs.length]; exact hl), fun p hp => ?_⟩
    split at h1
    · rename_i ds hd
      cases h1
      have hr := pures_rp hxs hd
      have := q (.ref p) (w1.put .N p (.tup vs)) (g1.trans ((Gr.put k1.wf hp).gs k1.wf)) (k1.mono (Gr.put k1.wf hp)) (new_tup (t := .N) k1.wf (by decide) hp hr)
      rw [put_H] at this
      exact this
    · cases h1
      obtain ⟨w2, e2, g2, k2, hx⟩ := new_ok k1 (o := .tup vs) (M := .tup xs) hp ⟨vs, upd_same, HvsOk.mono (w := w1) (w' := ⟨w1.N, w1.B, upd w1.H p (.tup vs), w1.m⟩) (.refl _) (List.prefix_refl _) hxs⟩
      rw [← e2]
      exact q _ w2 (g1.trans g2) k2 hx
  · cases h1
theorem jx_lst (h : PA X es (tXA (zx X cl) W fa)) : PE X (.List es pos) (tX (zx X cl) W (xLst fa)) := by
  refine pe_w (pe_lst h) fun σ H Q ⟨env, w, r, e, kk, h, q⟩ => ?_
  subst e
  refine tXA_bind kk h q.late fun xs T1 vs w1 h1 g1 k1 hxs => ?_
  unfold lstK at h1
  split at h1
  · rename_i hl
    refine ⟨lim_le (by rw [hxs.length]; exact hl), fun p hp => ?_⟩
    cases h1
    obtain ⟨w2, e2, g2, k2, hx⟩ := new_ok k1 (o := .lst vs) (M := .lst xs) hp ⟨vs, upd_same, HvsOk.mono (w := w1) (w' := ⟨w1.N, w1.B, upd w1.H p (.lst vs), w1.m⟩) (.refl _) (List.prefix_refl _) hxs⟩
    rw [← e2]
    exact q _ w2 (g1.trans g2) k2 hx
  · cases h1
theorem jx_fld {cs : List Str} {n : Str} (F : FldOk X.K cl cs n) (he : PE X e (tX (zx X cl) W f)) (hb : attributeBase e n X.env (eval e X.env) = eval e X.env := by rfl) : PE X (.Attribute e n pos) (tX (zx X cl) W (xFld cs n f)) := by
  refine pe_w (pe_fld he hb) fun σ H Q ⟨env, w, r, e, kk, h, q⟩ => ?_
  subst e
  refine tX_bind kk h q.late fun x T1 v w1 h1 g1 k1 hx => ?_
  unfold fldX at h1
  split at h1
  · rename_i c fs ds
    split at h1
    · rename_i hc
      obtain ⟨d, h2, rfl⟩ := Option.map_eq_some_iff.mp h1
      obtain ⟨p, C, dx, vs, rfl, h3, h4, h5, h6⟩ := RV.ins (t := .N) k1.wf hx
      obtain ⟨u, h7, h8⟩ := lookup_rp h6 h2
      obtain ⟨c1, c2⟩ := F.ok _ hc _ h4
      exact ⟨p, C, dx, _, u, rfl, h3, c1, c2, h7, q u w1 g1 k1 h8⟩
    · cases h1
  · cases h1
  · split at h1
    · rename_i k _ c fs xs ej
      split at h1
      · rename_i hc
        obtain ⟨y, h2, rfl⟩ := Option.map_eq_some_iff.mp h1
        obtain ⟨p, rfl, h3⟩ := hx
        obtain ⟨p', h4, h5, C, dx, vs, h6, h7, h8, h9⟩ := k1.tb.at_ _ _ ej
        rw [h3] at h4
        cases h4
        obtain ⟨u, h10, h11⟩ := lookup_hv h9 h2
        obtain ⟨c1, c2⟩ := F.ok _ hc _ h7
        exact ⟨p, C, dx, _, u, rfl, h6, c1, c2, h10, q u w1 g1 k1 h11⟩
      · cases h1
    · cases h1
theorem dgt_hv {Z : Zc} {w : Wd} : ∀ {ks : List Key} {vs : List V} {xs : List HV} {q : Key} {x : HV}, HvsOk Z w vs xs → dgt ks xs q = some x → ∃ v, dgt ks vs q = some v ∧ HvOk Z w v x
  | [], _, _, _, _, _, h => by cases h
  | _ :: _, [], [], _, _, _, h => by cases h
  | k :: ks, v :: vs, y :: xs, q, x, ⟨h, r⟩, e => by
    unfold dgt at e ⊢
    by_cases c : k = q
    · rw [if_pos c] at e ⊢; cases e; exact ⟨_, rfl, h⟩
    · rw [if_neg c] at e ⊢; exact dgt_hv r e
  | _ :: _, [], _ :: _, _, _, h, _ => h.elim
  | _ :: _, _ :: _, [], _, _, h, _ => h.elim
def rIX (Z : Zc) : R2 := fun x y H Q => ∃ w T a d z, w.H = H ∧ Wf w ∧ TbOk Z T w ∧ HvOk Z w x a ∧ HvOk Z w y (.pu d) ∧ ixA T a d = some z ∧ ∀ v w', Gr w w' → HvOk Z w' v z → Q v w'.H
theorem ixA_pu {T : Tb} {d y : D} {z : HV} (h : ixA T (.pu d) y = some z) : ∃ r, oIx (.N, d) (.N, y) = some (.N, r) ∧ z = .pu r := by
  have key : ∀ o : Option TD, (o.bind fun r => if r.1 = .N then some (HV.pu r.2) else none) = some z → ∃ r, o = some (.N, r) ∧ z = .pu r := fun o h => by
    obtain ⟨⟨t, r⟩, h1, h2⟩ := Option.bind_eq_some_iff.mp h
    dsimp only at h2
    split at h2
    · rename_i ht; subst ht; cases h2; exact ⟨r, h1, rfl⟩
    · cases h2
  cases y <;> first | exact key _ h | cases h
theorem ix_x (hX : XS X) : IxR X (rIX (zx X cl)) := by
  rintro value slice pins s σ H x y v u Q I rx ry ⟨w, T, a, y', z, eH, hw, ht, hx, hy, ho, q⟩ hs
  subst eH
  cases a with
  | pu d =>
    obtain ⟨r, h1, rfl⟩ := ixA_pu ho
    exact ix_d (cl := cl) hX value slice pins s σ _ _ _ v u Q I rx ry ⟨w, (.N, d), (.N, y'), _, rfl, hw, hx, hy, h1, fun v w' g rv => q v w' g rv⟩ hs
  | ob k =>
    obtain ⟨p, rfl, h3⟩ := hx
    have dic : ∀ {ks : List Key} {xs : List HV} {kk : Key}, T[k]? = some (some (.dic ks xs)) → keyD y' = some kk → dgt ks xs kk = some z → wpAny (model X.prog X.w) X.A (PyProof.Rows.subscriptTail value slice v u) (EP X pins σ Q) X.xe s := fun {ks xs kk} ej hk hd => by
      obtain ⟨p', h4, h5, vs, h6, h7, h8⟩ := ht.at_ _ _ ej
      rw [h3] at h4
      cases h4
      obtain ⟨s1, s2⟩ := keyD_v hk
      obtain rfl := rp_val s1 hy
      obtain ⟨v0, h9, h10⟩ := dgt_hv h8 hd
      exact ix_dict hX value slice pins s σ _ _ _ v u Q I rx ry ⟨p, v0, rfl, .inl ⟨_, kk, .inl h6, s2, by rw [dgt_val, h9]⟩, q v0 w (Gr.refl hw) h10⟩ hs
    unfold ixA at ho
    split at ho
    · rename_i i
      unfold ixX at ho
      dsimp only at ho
      obtain rfl := rp_val (d := .int i) rfl hy
      split at ho
      · rename_i xs ej
        obtain ⟨p', h4, h5, vs, h6, h7⟩ := ht.at_ _ _ ej
        rw [h3] at h4
        cases h4
        obtain ⟨v0, h8, h9⟩ := atI_hv h7 ho
        exact ix_list value slice pins s σ _ _ _ v u Q I rx ry ⟨p, vs, i, v0, rfl, rfl, SqL.of h6, h8, q v0 w (Gr.refl hw) h9⟩ hs
      · rename_i xs ej
        obtain ⟨p', h4, h5, vs, h6, h7⟩ := ht.at_ _ _ ej
        rw [h3] at h4
        cases h4
        obtain ⟨v0, h8, h9⟩ := atI_hv h7 ho
        exact ix_tup value slice pins s σ _ _ _ v u Q I rx ry ⟨p, vs, i, v0, rfl, rfl, .of h6, h8, q v0 w (Gr.refl hw) h9⟩ hs
      · rename_i ks xs ej
        exact dic ej rfl ho
      · cases ho
    · unfold ixXS at ho
      dsimp only at ho
      split at ho
      · rename_i ks xs ej
        exact dic ej rfl ho
      · cases ho
    · cases ho
theorem jx_ix (hX : XS X) (ha : PE X a (tX (zx X cl) W f)) (hb : PE X b (tX (zx X cl) W g)) (hs : PlainIx b := by exact fun _ _ => rfl) : PE X (.Subscript a b pos) (tX (zx X cl) W (xIx f g)) := by
  refine pe_w (pe_ix (ix_x (cl := cl) hX) ha hb hs) fun σ H Q ⟨env, w, r, e, kk, h, q⟩ => ?_
  subst e
  refine tX_bind kk h q.late fun x T1 v w1 h1 g1 k1 hx => ?_
  refine tX_bind k1 h1 (q.late.mono g1) fun y T2 u w2 h2 g2 k2 hy => ?_
  have key : ∀ (d : D), HvOk (zx X cl) w2 u (.pu d) → (ixA T2 x d).map (fun z => XRes.val z T2) = some r → rIX (zx X cl) v u w2.H Q := fun d hd h => by
    obtain ⟨z, h3, rfl⟩ := Option.map_eq_some_iff.mp h
    exact ⟨w2, T2, x, d, z, rfl, k2.wf, k2.tb, hx.mono g2.n g2.m, hd, h3, fun v' w3 g3 hv => q v' w3 ((g1.trans g2).trans (g3.gs k2.wf)) (k2.mono g3) hv⟩
  unfold ixK at h2
  split at h2
  · exact key _ hy h2
  · exact key _ hy h2
  · cases h2
/-! methods of lists that stand in the table -/
def lmK (m : List HV → List HV → Option (HV × List HV)) (x : HV) (xs : List HV) (T : Tb) : Option (XRes HV) := (obLst T x).bind fun q => (m q.2 xs).map fun r => .val r.1 (T.set q.1 (some (.lst r.2)))
def isLst (T : Tb) (x : HV) : Option Unit := (obLst T x).map fun _ => ()
def xLm (m : List HV → List HV → Option (HV × List HV)) (f : FX) (fa : FXA) : FX := fun env => bX (f env) fun x T1 => (isLst T1 x).bind fun _ => bX (fa ⟨env.s, T1⟩) fun xs T2 => lmK m x xs T2
/-- a method as its rule tells it -/
def LmOk (m : List HV → List HV → Option (HV × List HV)) (r : V → List V → Hp → VK → Prop) : Prop :=
  ∀ (Z : Zc) (w : Wd) (l : Addr) (ys as : List V) (yh ah : List HV) (res : HV) (new : List HV), HvsOk Z w ys yh → HvsOk Z w as ah → m yh ah = some (res, new) →
    ∃ rv nv, HvOk Z w rv res ∧ HvsOk Z w nv new ∧ ∀ (Q : VK) (H : Hp), H l = some (.lst ys) → Q rv (upd H l (.lst nv)) → r (.ref l) as H Q
theorem lm_end {Z : Zc} {s : List Sl} {σ : L2.St} {w w2 : Wd} {T2 : Tb} {Q : VK} {m : List HV → List HV → Option (HV × List HV)} {r : V → List V → Hp → VK → Prop} (hr : LmOk m r) {x : HV} {v : V} {xs : List HV} {vs : List V} {q : XRes HV}
    (h2 : lmK m x xs T2 = some q) (l : Fin Z W s σ w (PvX Z s σ w Q) q) (g : Gs w w2) (k2 : Wok Z ⟨s, T2⟩ σ w2) (hx : HvOk Z w2 v x) (hxs : HvsOk Z w2 vs xs) : r v vs w2.H Q := by
  obtain ⟨⟨j, yh⟩, h3, h4⟩ := Option.bind_eq_some_iff.mp h2
  obtain ⟨⟨res, new⟩, h5, rfl⟩ := Option.map_eq_some_iff.mp h4
  obtain ⟨rfl, ej⟩ := obLst_some h3
  obtain ⟨p, ys, rfl, h6, h7, h8, h9⟩ := ob_lst k2.tb hx ej
  obtain ⟨rv, nv, h10, h11, h12⟩ := hr Z w2 p ys vs yh xs res new h9 hxs h5
  obtain ⟨k3, g3⟩ := k2.tset (M := .lst new) (o := .lst nv) ej h6 h7 ⟨nv, upd_same, HvsOk.mono (w := w2) (w' := ⟨w2.N, w2.B, upd w2.H p (.lst nv), w2.m⟩) (.refl _) (List.prefix_refl _) h11⟩
  exact h12 Q w2.H h8 (l rv _ (g.trans g3) k3 (HvOk.mono (w := w2) (w' := ⟨w2.N, w2.B, upd w2.H p (.lst nv), w2.m⟩) (.refl _) (List.prefix_refl _) h10))
theorem isLst_ty {Z : Zc} {T : Tb} {w : Wd} (t : TbOk Z T w) {x : HV} {v : V} (hx : HvOk Z w v x) (h : isLst T x = some ()) : ∃ p vs, v = .ref p ∧ w.H p = some (.lst vs) := by
  obtain ⟨⟨j, yh⟩, h3, _⟩ := Option.map_eq_some_iff.mp h
  obtain ⟨rfl, ej⟩ := obLst_some h3
  obtain ⟨p, ys, rfl, h6, h7, h8, h9⟩ := ob_lst t hx ej
  exact ⟨p, ys, rfl, h8⟩
theorem jx_lm {m : List HV → List HV → Option (HV × List HV)} {r : V → List V → Hp → VK → Prop} {o : Expr} {name : Str} {id : String} {apos : Pos} (slot : Slot "list" name id) (ty : typeOf (.builtin id) = pure (.type "method_descriptor")) (hm : MtR X id r) (hr : LmOk m r) (ho : PE X o (tX (zx X cl) W f)) (ha : PA X (a :: es) (tXA (zx X cl) W fa))
    (hbase : attributeBase o name X.env (eval o X.env) = eval o X.env := by rfl) (hline : (apos.endLine == pos.line) = true := by rfl) (hs : starEach (a :: es) X.env = (false, eval a X.env) :: starEach es X.env := by rfl)
    (hfew : ((backTo pos (starEach (a :: es) X.env)).all (fun x => !x.1) && (backToKw pos (keywordEach [] X.env)).all (fun x => x.1.isSome) && decide ((a :: es).length + ([] : List Keyword).length + (if ([] : List Keyword).isEmpty then 0 else 1) < 30)) = true := by rfl) (hpl : (backTo pos (starEach es X.env)).any (·.1) = false := by rfl) :
    PE X (.Call (.Attribute o name apos) (a :: es) [] pos) (tX (zx X cl) W (xLm m f fa)) := by
  refine pe_w (pe_bm PySem.F.plainAttrs_list slot ty hm ho ha hbase hfew hline hs hpl) fun σ H Q ⟨env, w, q, e, kk, h, l⟩ => ?_
  subst e
  refine tX_bind kk h l.late fun x T1 v w1 h1 g1 k1 hx => ?_
  obtain ⟨u, hu, h1⟩ := Option.bind_eq_some_iff.mp h1
  obtain ⟨p, vs0, rfl, hp⟩ := isLst_ty k1.tb hx hu
  refine ⟨.inl ⟨rfl, _, SqL.of hp⟩, ?_⟩
  refine tXA_bind k1 h1 (l.late.mono g1) fun xs T2 vs w2 h2 g2 k2 hxs => ?_
  exact lm_end hr h2 l (g1.trans g2) k2 (hx.mono g2.n g2.m) hxs
theorem jx_lm0 {m : List HV → List HV → Option (HV × List HV)} {r : V → List V → Hp → VK → Prop} {o : Expr} {name : Str} {id : String} {apos : Pos} (slot : Slot "list" name id) (ty : typeOf (.builtin id) = pure (.type "method_descriptor")) (hm : MtR X id r) (hr : LmOk m r) (ho : PE X o (tX (zx X cl) W f))
    (hbase : attributeBase o name X.env (eval o X.env) = eval o X.env := by rfl) (hline : (apos.endLine == pos.line) = true := by rfl) :
    PE X (.Call (.Attribute o name apos) [] [] pos) (tX (zx X cl) W (xLm m f xNil)) := by
  refine pe_w (pe_bm0 PySem.F.plainAttrs_list slot ty hm ho hbase hline) fun σ H Q ⟨env, w, q, e, kk, h, l⟩ => ?_
  subst e
  refine tX_bind kk h l.late fun x T1 v w1 h1 g1 k1 hx => ?_
  obtain ⟨u, hu, h1⟩ := Option.bind_eq_some_iff.mp h1
  obtain ⟨p, vs0, rfl, hp⟩ := isLst_ty k1.tb hx hu
  refine ⟨.inl ⟨rfl, _, SqL.of hp⟩, ?_⟩
  have h1 : lmK m x [] T1 = some q := h1
  exact lm_end hr h1 l g1 k1 hx (vs := []) trivial
end
def mApp (ys as : List HV) : Option (HV × List HV) := match as with | [a] => if ys.length ≤ lim then some (.pu .non, ys ++ [a]) else none | _ => none
def mPop (ys as : List HV) : Option (HV × List HV) := match as with | [] => (ys[ys.length - 1]?).map fun y => (y, ys.dropLast) | _ => none
def mRev (ys as : List HV) : Option (HV × List HV) := match as with | [] => some (.pu .non, ys.reverse) | _ => none
noncomputable def mIns (ys as : List HV) : Option (HV × List HV) := match as with | [.pu (.int i), y] => cif (ys.length ≤ lim ∧ 0 ≤ i ∧ i < 4611686018427387904) (some (.pu .non, ys.take i.toNat ++ [y] ++ ys.drop i.toNat)) none | _ => none
theorem HvsOk.one {Z : Zc} {w : Wd} {vs : List V} {x : HV} (h : HvsOk Z w vs [x]) : ∃ v, vs = [v] ∧ HvOk Z w v x := by
  match vs, h with
  | [v], ⟨h, _⟩ => exact ⟨v, rfl, h⟩
theorem HvsOk.two {Z : Zc} {w : Wd} {vs : List V} {x y : HV} (h : HvsOk Z w vs [x, y]) : ∃ v u, vs = [v, u] ∧ HvOk Z w v x ∧ HvOk Z w u y := by
  match vs, h with
  | [v, u], ⟨h, h2, _⟩ => exact ⟨v, u, rfl, h, h2⟩
theorem HvsOk.zero {Z : Zc} {w : Wd} {vs : List V} (h : HvsOk Z w vs []) : vs = [] := by
  match vs, h with
  | [], _ => rfl
theorem HvsOk.dropLast {Z : Zc} {w : Wd} : ∀ {vs : List V} {xs : List HV}, HvsOk Z w vs xs → HvsOk Z w vs.dropLast xs.dropLast
  | [], [], _ => trivial
  | [_], [_], _ => trivial
  | _ :: v :: vs, _ :: x :: xs, ⟨h, r⟩ => ⟨h, HvsOk.dropLast (vs := v :: vs) (xs := x :: xs) r⟩
  | [], _ :: _, h => h.elim
  | _ :: _, [], h => h.elim
  | [_], _ :: _ :: _, h => h.2.elim
  | _ :: _ :: _, [_], h => h.2.elim
theorem HvsOk.reverse {Z : Zc} {w : Wd} : ∀ {vs : List V} {xs : List HV}, HvsOk Z w vs xs → HvsOk Z w vs.reverse xs.reverse
  | [], [], _ => trivial
  | v :: vs, x :: xs, ⟨h, r⟩ => by
    rw [List.reverse_cons, List.reverse_cons]
    exact r.reverse.app ⟨h, trivial⟩
  | [], _ :: _, h => h.elim
  | _ :: _, [], h => h.elim
theorem HvsOk.take {Z : Zc} {w : Wd} : ∀ {vs : List V} {xs : List HV} (k : Nat), HvsOk Z w vs xs → HvsOk Z w (vs.take k) (xs.take k)
  | [], [], _, _ => by simp [HvsOk]
  | v :: vs, x :: xs, 0, ⟨h, r⟩ => trivial
  | v :: vs, x :: xs, k + 1, ⟨h, r⟩ => ⟨h, r.take k⟩
  | [], _ :: _, _, h => h.elim
  | _ :: _, [], _, h => h.elim
theorem HvsOk.drop {Z : Zc} {w : Wd} : ∀ {vs : List V} {xs : List HV} (k : Nat), HvsOk Z w vs xs → HvsOk Z w (vs.drop k) (xs.drop k)
  | [], [], _, _ => by simp [HvsOk]
  | v :: vs, x :: xs, 0, h => h
  | v :: vs, x :: xs, k + 1, ⟨h, r⟩ => r.drop k
  | [], _ :: _, _, h => h.elim
  | _ :: _, [], _, h => h.elim
theorem lm_app : LmOk mApp rAppend := by
  intro Z w l ys as yh ah res new hy ha hm
  unfold mApp at hm
  split at hm
  · split at hm
    · rename_i a hl
      cases hm
      obtain ⟨v, rfl, hv⟩ := ha.one
      exact ⟨.non, ys ++ [v], .non, hy.app ⟨hv, trivial⟩, fun Q H hH hQ => ⟨l, ys, v, rfl, rfl, hH, lim_lt (by rw [hy.length]; exact hl), hQ⟩⟩
    · cases hm
  · cases hm
theorem lm_pop : LmOk mPop rPop := by
  intro Z w l ys as yh ah res new hy ha hm
  unfold mPop at hm
  split at hm
  · obtain ⟨y, h1, h2⟩ := Option.map_eq_some_iff.mp hm
    cases h2
    obtain rfl := ha.zero
    obtain ⟨v, h3, h4⟩ := hy.get h1
    exact ⟨v, ys.dropLast, h4, hy.dropLast, fun Q H hH hQ => ⟨l, ys, v, rfl, rfl, hH, by rw [hy.length]; exact h3, hQ⟩⟩
  · cases hm
theorem lm_rev : LmOk mRev rReverse := by
  intro Z w l ys as yh ah res new hy ha hm
  unfold mRev at hm
  split at hm
  · cases hm
    obtain rfl := ha.zero
    exact ⟨.non, ys.reverse, .non, hy.reverse, fun Q H hH hQ => ⟨l, ys, rfl, rfl, hH, hQ⟩⟩
  · cases hm
end Vf
namespace Vf
open PySem L2
/-! ### statements that change the table and may raise -/
inductive OutX where | nx (e : Ev) | rt (x : HV) (T : Tb) | bk (e : Ev) | ct (e : Ev) | ex (c : Str) (ns : List Str) (xs : List HV) (e : Ev)
abbrev SX := Ev → Option OutX
def OutXOk (Z : Zc) (W : WX) (D : Ends) (w : Wd) : OutX → Prop
  | .nx e => ∀ σ' w', Gs w w' → Wok Z e σ' w' → D.nx σ' w'.H
  | .rt x T => ∀ v w', Gs w w' → HvOk Z w' v x → TbOk Z T w' → D.rt v w'.H
  | .bk e => ∀ σ' w', Gs w w' → Wok Z e σ' w' → D.bk σ' w'.H
  | .ct e => ∀ σ' w', Gs w w' → Wok Z e σ' w' → D.ct σ' w'.H
  | .ex c ns xs e => ∀ cls d σ' w', Gs w w' → Wok Z e σ' w' → ExOk Z w' cls d c ns xs → W cls d σ' w'.H
def tSX (Z : Zc) (W : WX) (f : SX) : TS := fun D σ H => ∃ env w out, w.H = H ∧ Wok Z env σ w ∧ f env = some out ∧ OutXOk Z W D w out
theorem OutXOk.mono {Z : Zc} {W : WX} {D : Ends} {w w' : Wd} (g : Gs w w') {out : OutX} (h : OutXOk Z W D w out) : OutXOk Z W D w' out := by
  cases out with
  | nx _ => exact fun σ' w2 g2 => h σ' w2 (g.trans g2)
  | rt _ _ => exact fun v w2 g2 => h v w2 (g.trans g2)
  | bk _ => exact fun σ' w2 g2 => h σ' w2 (g.trans g2)
  | ct _ => exact fun σ' w2 g2 => h σ' w2 (g.trans g2)
  | ex _ _ _ _ => exact fun cls d σ' w2 g2 => h cls d σ' w2 (g.trans g2)
/-- an expression's end, then what follows -/
def kS {α : Type} (s : List Sl) (k : α → Tb → Option OutX) : XRes α → Option OutX
  | .val x T => k x T
  | .exc c ns xs T => some (.ex c ns xs ⟨s, T⟩)
def bS {α : Type} (env : Ev) (o : Option (XRes α)) (k : α → Tb → Option OutX) : Option OutX := o.bind (kS env.s k)
section
variable {α : Type} {Z : Zc} {W : WX} {D : Ends} {σ : L2.St} {w w' : Wd} {env : Ev} {out : OutX}
theorem bS_fin {o : Option (XRes α)} {k : α → Tb → Option OutX} {P : α → Tb → Prop} (h : bS env o k = some out) (q : OutXOk Z W D w out) (hv : ∀ x T, k x T = some out → P x T) : ∃ r, o = some r ∧ Fin Z W env.s σ w P r := by
  obtain ⟨r, h1, h2⟩ := Option.bind_eq_some_iff.mp h
  cases r with
  | val x T => exact ⟨_, h1, hv x T h2⟩
  | exc c ns xs T =>
    cases h2
    exact ⟨_, h1, fun cls d w' g k e => q cls d σ w' g k e⟩
theorem tX_then {f : FX} {k : HV → Tb → Option OutX} {Q : VK} (kk : Wok Z env σ w) (h : bS env (f env) k = some out) (q : OutXOk Z W D w out)
    (hq : ∀ x T v w1, k x T = some out → Gs w w1 → Wok Z ⟨env.s, T⟩ σ w1 → HvOk Z w1 v x → Q v w1.H) : tX Z W f σ w.H Q := by
  obtain ⟨r, h1, h2⟩ := bS_fin (P := PvX Z env.s σ w Q) h q fun x T hk v w1 g k1 hx => hq x T v w1 hk g k1 hx
  exact ⟨env, w, r, rfl, kk, h1, h2⟩
theorem tXT_then {f : FXT} {k : Bool → Tb → Option OutX} {Q : Bool → Hp → Prop} (kk : Wok Z env σ w) (h : bS env (f env) k = some out) (q : OutXOk Z W D w out)
    (hq : ∀ x T w1, k x T = some out → Gs w w1 → Wok Z ⟨env.s, T⟩ σ w1 → Q x w1.H) : tXT Z W f σ w.H Q := by
  obtain ⟨r, h1, h2⟩ := bS_fin (P := PtX Z env.s σ w Q) h q fun x T hk w1 g k1 => hq x T w1 hk g k1
  exact ⟨env, w, r, rfl, kk, h1, h2⟩
end
def zNx : SX := fun env => some (.nx env)
def zThen (b : SX) : OutX → Option OutX | .nx e => b e | o => some o
def zSeq (a b : SX) : SX := fun env => (a env).bind (zThen b)
def liftO : Out → Option OutX
  | .nx e => some (.nx e) | .bk e => some (.bk e) | .ct e => some (.ct e) | .rth x T => some (.rt x T) | .rt _ => none
def zLift (f : FS) : SX := fun env => (f env).bind liftO
def setZ (i : Nat) (s : List Sl) (x : HV) (T : Tb) : Option OutX := (setHS i x ⟨s, T⟩).map .nx
def zSet (i : Nat) (f : FX) : SX := fun env => bS env (f env) (setZ i env.s)
def zRet (f : FX) : SX := fun env => bS env (f env) fun x T => some (.rt x T)
def zDo (f : FX) : SX := fun env => bS env (f env) fun _ T => some (.nx ⟨env.s, T⟩)
def zIf (c : FXT) (a b : SX) : SX := fun env => bS env (c env) fun k T => if k then a ⟨env.s, T⟩ else b ⟨env.s, T⟩
def stoZ (cs : List Str) (n : Str) (s : List Sl) (x y : HV) (T : Tb) : Option OutX := match y with
  | .ob k => match T[k]? with
    | some (some (.ins c fs xs)) => if c ∈ cs ∧ fs.length < 1000 then some (.nx ⟨s, T.set k (some (.ins c (putG n x fs xs).1 (putG n x fs xs).2))⟩) else none
    | _ => none
  | .pu _ => none
def zSto (cs : List Str) (n : Str) (o v : FX) : SX := fun env => bS env (v env) fun x T1 => bS env (o ⟨env.s, T1⟩) fun y T2 => stoZ cs n env.s x y T2
/-- a dict's keys and values behind d[k] = x -/
def dput {α : Type} : List Key → List α → Key → α → List Key × List α
  | k :: ks, y :: ys, q, x => if k = q then (k :: ks, x :: ys) else (k :: (dput ks ys q x).1, y :: (dput ks ys q x).2)
  | _, _, q, x => ([q], [x])
theorem dput_put : ∀ (ks : List Key) (vs : List L2.V) (q : Key) (x : L2.V), vs.length = ks.length → (ks.Nodup) → L2.putK (ks.zip vs) q x = (dput ks vs q x).1.zip (dput ks vs q x).2
  | [], [], q, x, _, _ => rfl
  | k :: ks, v :: vs, q, x, h, hn => by
    have hl : vs.length = ks.length := by simpa using h
    have ih := dput_put ks vs q x hl (List.nodup_cons.mp hn).2
    unfold dput
    by_cases e : k = q
    · rw [if_pos e]
      have hnq : ∀ p ∈ ks.zip vs, p.1 ≠ q := fun p hp z => (List.nodup_cons.mp hn).1 (by rw [e, ← z]; exact (List.of_mem_zip hp).1)
      unfold L2.putK
      have ha : (((k :: ks).zip (v :: vs)).any fun kv => decide (kv.1 = q)) = true := by simp [e]
      rw [if_pos ha]
      show (if k = q then (k, x) else (k, v)) :: (ks.zip vs).map _ = (k, x) :: ks.zip vs
      rw [if_pos e]
      congr 1
      conv => rhs; rw [← List.map_id (ks.zip vs)]
      exact List.map_congr_left fun p hp => by rw [if_neg (hnq p hp)]; rfl
    · rw [if_neg e]
      unfold L2.putK at ih ⊢
      have ha : (((k :: ks).zip (v :: vs)).any fun kv => decide (kv.1 = q)) = ((ks.zip vs).any fun kv => decide (kv.1 = q)) := by simp [e]
      rw [ha]
      split
      · rename_i hc
        rw [if_pos hc] at ih
        show (if k = q then (k, x) else (k, v)) :: (ks.zip vs).map _ = (k, v) :: _
        rw [if_neg e, ih]; rfl
      · rename_i hc
        rw [if_neg hc] at ih
        show (k, v) :: (ks.zip vs ++ [(q, x)]) = (k, v) :: _
        rw [ih]; rfl
  | _ :: _, [], _, _, h, _ => by cases h
  | [], _ :: _, _, _, h, _ => by cases h
theorem dput_len {α : Type} : ∀ (ks : List Key) (xs : List α) (q : Key) (x : α), xs.length = ks.length → (dput ks xs q x).2.length = (dput ks xs q x).1.length
  | [], [], q, x, _ => rfl
  | k :: ks, v :: vs, q, x, h => by
    have ih := dput_len ks vs q x (by simpa using h)
    unfold dput
    split
    · simpa using h
    · simpa using ih
  | _ :: _, [], _, _, h => by cases h
  | [], _ :: _, _, _, h => by cases h
theorem dput_hvs {Z : Zc} {w : Wd} : ∀ {ks : List Key} {vs : List V} {xs : List HV} (q : Key) {v : V} {x : HV}, vs.length = ks.length → HvsOk Z w vs xs → HvOk Z w v x → (dput ks vs q v).1 = (dput ks xs q x).1 ∧ HvsOk Z w (dput ks vs q v).2 (dput ks xs q x).2
  | [], [], [], _, _, _, _, _, hx => ⟨rfl, hx, trivial⟩
  | k :: ks, v :: vs, y :: xs, q, v', x, hl, ⟨h, r⟩, hx => by
    obtain ⟨i1, i2⟩ := dput_hvs (ks := ks) q (by simpa using hl) r hx
    unfold dput
    by_cases e : k = q
    · rw [if_pos e, if_pos e]; exact ⟨rfl, hx, r⟩
    · rw [if_neg e, if_neg e]; exact ⟨by rw [i1], h, i2⟩
  | _ :: _, [], _, _, _, _, hl, _, _ => by cases hl
  | [], _ :: _, _, _, _, _, hl, _, _ => by cases hl
  | [], [], _ :: _, _, _, _, _, h, _ => h.elim
  | _ :: _, _ :: _, [], _, _, _, _, h, _ => h.elim
def obDic (T : Tb) (x : HV) : Option (Nat × List Key × List HV) := match x with
  | .ob k => match T[k]? with
    | some (some (.dic ks xs)) => some (k, ks, xs)
    | _ => none
  | .pu _ => none
theorem obDic_some {T : Tb} {x : HV} {k : Nat} {ks : List Key} {xs : List HV} (h : obDic T x = some (k, ks, xs)) : x = .ob k ∧ T[k]? = some (some (.dic ks xs)) := by
  unfold obDic at h
  split at h
  · split at h
    · rename_i e; cases h; exact ⟨rfl, e⟩
    · cases h
  · cases h
def keyH : HV → Option Key | .pu d => keyD d | .ob _ => none
def putL (s : List Sl) (x y i : HV) (T : Tb) : Option OutX := (obLst T y).bind fun q => match i with
  | .pu (.int i) => (ixN q.2.length i).map fun j => .nx ⟨s, T.set q.1 (some (.lst (q.2.set j x)))⟩
  | _ => none
noncomputable def putD (s : List Sl) (x y i : HV) (T : Tb) : Option OutX := (obDic T y).bind fun q => (keyH i).bind fun k => cif (q.2.1.length ≤ lim ∧ q.2.1.Nodup) (some (.nx ⟨s, T.set q.1 (some (.dic (dput q.2.1 q.2.2 k x).1 (dput q.2.1 q.2.2 k x).2))⟩)) none
noncomputable def putZ (s : List Sl) (x y i : HV) (T : Tb) : Option OutX := match obDic T y with
  | some _ => putD s x y i T
  | none => putL s x y i T
noncomputable def zPut (o i v : FX) : SX := fun env => bS env (v env) fun x T1 => bS env (o ⟨env.s, T1⟩) fun y T2 => bS env (i ⟨env.s, T2⟩) fun j T3 => putZ env.s x y j T3
theorem set_ld {X : Cx} (hX : XS X) : PSet X (fun o i v H Q => rSetL o i v H Q ∨ rSetD o i v H Q) := by
  intro pins s σ H o i v ov iv u Q I ro ri rv h
  rcases h with h | h
  · exact set_list pins s σ H o i v ov iv u Q I ro ri rv h
  · exact set_dict (by have := hX.hu; omega) pins s σ H o i v ov iv u Q I ro ri rv h
section
variable {X : Cx} {cl : Str → Option Addr} {W : WX} {a b c e o value i : Expr} {es : List Expr} {f g h : FX} {fa : FXA} {ct dt : FXT} {pos pos' : Pos} {A B : SX} {st : Stmt} {rest body orelse : List Stmt}
theorem jz_nil : PSs X [] (tSX (zx X cl) W zNx) := by
  refine pss_w pss_nil fun D σ H ⟨env, w, out, e, k, hr, q⟩ => ?_
  subst e
  cases hr
  exact q σ w (Gs.refl k.wf) k
theorem jz_cons (h1 : PS X st (tSX (zx X cl) W A)) (h2 : PSs X rest (tSX (zx X cl) W B)) : PSs X (st :: rest) (tSX (zx X cl) W (zSeq A B)) := by
  refine pss_w (pss_cons h1 h2) fun D σ H ⟨env, w, out, e, k, hr, q⟩ => ?_
  subst e
  obtain ⟨o, h3, h4⟩ := Option.bind_eq_some_iff.mp hr
  refine ⟨env, w, o, rfl, k, h3, ?_⟩
  cases o with
  | nx e' => exact fun σ' w' g' k' => ⟨e', w', out, rfl, k', h4, q.mono g'⟩
  | rt x T => cases h4; exact q
  | bk e' => cases h4; exact q
  | ct e' => cases h4; exact q
  | ex c ns xs e' => cases h4; exact q
theorem jz_one (h1 : PS X st (tSX (zx X cl) W A)) : PSs X [st] (tSX (zx X cl) W A) := by
  refine pss_w (jz_cons h1 jz_nil) fun D σ H ⟨env, w, out, e, k, hr, q⟩ => ⟨env, w, out, e, k, ?_, q⟩
  unfold zSeq
  rw [hr]
  cases out <;> rfl
theorem jz_set (i : Nat) {x : Str} {p' : Pos} (hX : XS X) (he : PE X e (tX (zx X cl) W f)) (hi : X.N[i]? = some x := by rfl) (hx : Loc X.env.scope x := by first | exact Or.inl rfl | exact Or.inr rfl) (hs : swapsWith e (some (.Name x p')) pos.line X.env = pure false := by rfl)
    (hf : X.fn x = true ∨ X.env.scope.names.lookup x = some .local := by first | exact .inl rfl | exact .inr rfl) : PS X (.Assign [.Name x p'] e pos) (tSX (zx X cl) W (zSet i f)) := by
  refine ps_w (ps_set hX.nd hi hx he hs hf) fun D σ H ⟨env, w, out, e, k, hr, q⟩ => ?_
  subst e
  refine tX_then k hr q fun x T v w1 h1 g1 k1 hx => ?_
  obtain ⟨e', h2, rfl⟩ := Option.map_eq_some_iff.mp h1
  exact q _ w1 g1 (setHS_ok k1 h2 hx)
theorem jz_ret (he : PE X e (tX (zx X cl) W f)) : PS X (.Return (some e) pos) (tSX (zx X cl) W (zRet f)) := by
  refine ps_w (ps_ret he) fun D σ H ⟨env, w, out, e, k, hr, q⟩ => ?_
  subst e
  refine tX_then k hr q fun x T v w1 h1 g1 k1 hx => ?_
  cases h1
  exact q v w1 g1 hx k1.tb
theorem jz_do (he : PE X e (tX (zx X cl) W f)) (hs : swapsWith e none pos.line X.env = pure false := by rfl) : PS X (.Expr e pos) (tSX (zx X cl) W (zDo f)) := by
  refine ps_w (ps_expr he hs) fun D σ H ⟨env, w, out, e, k, hr, q⟩ => ?_
  subst e
  refine tX_then k hr q fun x T v w1 h1 g1 k1 hx => ?_
  cases h1
  exact q σ w1 g1 k1
theorem jz_if (hc : PT X c (tXT (zx X cl) W ct)) (ha : PSs X body (tSX (zx X cl) W A)) (hb : PSs X orelse (tSX (zx X cl) W B)) : PS X (.If c body orelse pos) (tSX (zx X cl) W (zIf ct A B)) := by
  refine ps_w (ps_if hc ha hb) fun D σ H ⟨env, w, out, e, k, hr, q⟩ => ?_
  subst e
  refine tXT_then k hr q fun x T w1 h1 g1 k1 => ?_
  cases x with
  | true => exact ⟨_, w1, out, rfl, k1, h1, q.mono g1⟩
  | false => exact ⟨_, w1, out, rfl, k1, h1, q.mono g1⟩
theorem jz_sto {cs : List Str} {n : Str} (F : FldOk X.K cl cs n) (ho : PE X o (tX (zx X cl) W f)) (hv : PE X value (tX (zx X cl) W g)) (hs : swapsWith value (some (.Attribute o n pos')) pos.line X.env = pure false := by rfl) : PS X (.Assign [.Attribute o n pos'] value pos) (tSX (zx X cl) W (zSto cs n f g)) := by
  refine ps_w (ps_fld ho hv hs) fun D σ H ⟨env, w, out, e, k, hr, q⟩ => ?_
  subst e
  refine tX_then k hr q fun x T1 v w1 h1 g1 k1 hx => ?_
  refine tX_then k1 h1 (q.mono g1) fun y T2 u w2 h2 g2 k2 hy => ?_
  unfold stoZ at h2
  split at h2
  · rename_i m
    split at h2
    · rename_i c fs xs ej
      split at h2
      · rename_i hc
        cases h2
        obtain ⟨p, rfl, h3⟩ := hy
        obtain ⟨p', h4, h5, C, dx, vs, h6, h7, h8, h9⟩ := k2.tb.at_ _ _ ej
        rw [h3] at h4
        cases h4
        obtain ⟨c1, c2⟩ := F.ok _ hc.1 _ h7
        have hx2 := hx.mono g2.n g2.m
        have e1 := putG_F (n := n) (v := v) h8
        have e2 : (putG n v fs vs).1 = (putG n x fs xs).1 := putG_names h8 (by rw [← h9.length]; exact h8)
        obtain ⟨k3, g3⟩ := k2.tset (M := .ins c (putG n x fs xs).1 (putG n x fs xs).2) (o := .ins C dx (putF n v (fs.zip vs))) ej h3 h5
          ⟨C, dx, (putG n v fs vs).2, by rw [e1, e2]; exact upd_same, h7, by rw [putG_len h8, e2], HvsOk.mono (w := w2) (w' := ⟨w2.N, w2.B, upd w2.H _ _, w2.m⟩) (.refl _) (List.prefix_refl _) (putG_hv hx2 h9)⟩
        exact ⟨p, C, dx, _, rfl, h6, c1, c2, by rw [List.length_zip, h8]; omega, q σ _ ((g1.trans g2).trans g3) k3⟩
      · cases h2
    · cases h2
  · cases h2
theorem jz_put (hX : XS X) (hv : PE X e (tX (zx X cl) W h)) (ho : PE X o (tX (zx X cl) W f)) (hi : PE X i (tX (zx X cl) W g))
    (ha : ∀ v, assign (.Subscript o i pos') X.env v = (do
      let ov ← holding [v] (eval o X.env)
      let iv ← holding [v, ov] (eval i X.env)
      standAt pos'
      holding [v, ov, iv] (setItem ov iv v)
      release [v, ov, iv] []) := by intro _; rfl)
    (hs : swapsWithSole [.Subscript o i pos'] e pos.line X.env = pure false := by rfl) (hw : swappedStores [.Subscript o i pos'] e X.env = pure none := by rfl)
    (h1 : (assignEach [.Subscript o i pos'] X.env).map (·.2) = [assign (.Subscript o i pos') X.env] := by rfl) : PS X (.Assign [.Subscript o i pos'] e pos) (tSX (zx X cl) W (zPut f g h)) := by
  refine ps_w (ps_asg hv (pg_sub ho hi (set_ld hX) ha) hs hw h1) fun D σ H ⟨env, w, out, e, k, hr, q⟩ => ?_
  subst e
  refine tX_then k hr q fun x T1 v w1 h1 g1 k1 hx => ?_
  refine tX_then k1 h1 (q.mono g1) fun y T2 u w2 h2 g2 k2 hy => ?_
  refine tX_then k2 h2 (q.mono (g1.trans g2)) fun j T3 u2 w3 h3 g3 k3 hj => ?_
  have hx3 := (hx.mono g2.n g2.m).mono g3.n g3.m
  unfold putZ at h3
  split at h3
  · unfold putD at h3
    obtain ⟨⟨m, ks, xs⟩, h4, h5⟩ := Option.bind_eq_some_iff.mp h3
    obtain ⟨rfl, ej⟩ := obDic_some h4
    obtain ⟨kk, hk, h5⟩ := Option.bind_eq_some_iff.mp h5
    dsimp only at h5
    by_cases hc : ks.length ≤ lim ∧ ks.Nodup
    · rw [cif_pos hc] at h5
      cases h5
      obtain ⟨p, rfl, h6⟩ := hy.mono g3.n g3.m
      obtain ⟨p', h7, h8, vs, h9, h10, h11⟩ := k3.tb.at_ _ _ ej
      rw [h6] at h7
      cases h7
      obtain ⟨e1, e2⟩ := dput_hvs (ks := ks) kk h10 h11 hx3
      have hj' : ∃ d, j = .pu d ∧ keyD d = some kk := by
        cases j with
        | pu d => exact ⟨d, rfl, hk⟩
        | ob n => cases hk
      obtain ⟨d, rfl, hk⟩ := hj'
      obtain ⟨s1, s2⟩ := keyD_v hk
      obtain ⟨k4, g4⟩ := k3.tset (M := .dic (dput ks xs kk x).1 (dput ks xs kk x).2) (o := .dK ((dput ks vs kk v).1.zip (dput ks vs kk v).2)) ej h6 h8 ⟨_, by rw [← e1]; exact upd_same, by rw [← e1]; exact dput_len ks vs kk v h10, HvsOk.mono (w := w3) (w' := ⟨w3.N, w3.B, upd w3.H _ (.dK ((dput ks vs kk v).1.zip (dput ks vs kk v).2)), w3.m⟩) (.refl _) (List.prefix_refl _) e2⟩
      refine .inr ⟨p, _, rfl, .inl ⟨_, kk, h9, ?_, ?_, ?_⟩, q σ _ (((g1.trans g2).trans g3).trans g4) k4⟩
      · rw [← s2]; exact rp_val s1 hj
      · rw [List.length_zip, h10, Nat.min_self]; exact lim_lt hc.1
      · rw [dput_put ks vs kk v h10 hc.2]
    · rw [cif_neg hc] at h5
      cases h5
  · unfold putL at h3
    obtain ⟨⟨m, xs⟩, h4, h5⟩ := Option.bind_eq_some_iff.mp h3
    obtain ⟨rfl, ej⟩ := obLst_some h4
    dsimp only at h5
    split at h5
    · rename_i n
      obtain ⟨n', h6, rfl⟩ := Option.map_eq_some_iff.mp h5
      obtain ⟨p, vs, rfl, h7, h8, h9, h10⟩ := ob_lst k3.tb (hy.mono g3.n g3.m) ej
      obtain ⟨k4, g4⟩ := k3.tset (M := .lst (xs.set n' x)) (o := .lst (vs.set n' v)) ej h7 h8 ⟨_, upd_same, HvsOk.mono (w := w3) (w' := ⟨w3.N, w3.B, upd w3.H _ (.lst (vs.set n' v)), w3.m⟩) (.refl _) (List.prefix_refl _) (h10.set n' hx3)⟩
      exact .inl ⟨p, vs, n, n', rfl, rp_val (d := .int n) rfl hj, h9, by rw [h10.length]; exact h6, q σ _ (((g1.trans g2).trans g3).trans g4) k4⟩
    · cases h5
end
/-! loops -/
def forZ (A : SX) (s : TD → Ev → Option Ev) : List TD → Ev → Option OutX
  | [], env => some (.nx env)
  | r :: rs, env => (s r env).bind fun e => (A e).bind fun o => match o with
    | .nx e' => forZ A s rs e'
    | .ct e' => forZ A s rs e'
    | .bk e' => some (.nx e')
    | .rt x T => some (.rt x T)
    | .ex c ns xs e => some (.ex c ns xs e)
def zFor (fi : FI) (s : TD → Ev → Option Ev) (A : SX) : SX := fun env => (fi env).bind fun items => forZ A s items env
section
variable {X : Cx} {cl : Str → Option Addr} {W : WX} {a b c e o value i tg iter : Expr} {pos pos' : Pos} {A B : SX} {st : Stmt} {rest body orelse : List Stmt} {ct : FXT} {fi : FI} {is : List Nat} {s : TD → Ev → Option Ev}
theorem jz_for (hp : PassesOwn (model X.prog X.w) X.A X.env X.xe) (hX : XS X) (hi : PI X tg iter (tI Gs (zx X cl) fi)) (hg : PG X tg (tG (zx X cl) is s)) (hb : PSs X body (tSX (zx X cl) W A)) (hs : ∀ x, foldedSetIterable iter X.env x = pure x := by intro _; rfl) :
    PS X (.For tg iter body [] pos) (tSX (zx X cl) W (zFor fi s A)) := by
  refine ps_w (ps_for hp hX.calm hi hg hb hs) fun D σ H ⟨env, w, out, e, k, hr, q⟩ => ?_
  subst e
  obtain ⟨items, h3, h4⟩ := Option.bind_eq_some_iff.mp hr
  refine ⟨env, w, items, rfl, k, h3, fun J w1 g1 wk => ?_⟩
  refine ⟨fun i m σ' H' => ∃ env' w', w'.H = H' ∧ Wok (zx X cl) env' σ' w' ∧ Gs w1 w' ∧ m = items.length - i ∧ i ≤ items.length ∧ forZ A s (items.drop i) env' = some out, ⟨items.length, env, w1, rfl, k.mono g1, Gs.refl g1.wf, rfl, Nat.zero_le _, h4⟩, ?_⟩
  rintro i m σ' H' ⟨env', w', rfl, k', gs, rfl, hi, hf⟩
  by_cases hlt : i < items.length
  · obtain ⟨r, hr⟩ : ∃ r, items[i]? = some r := ⟨items[i], List.getElem?_eq_getElem hlt⟩
    have hd : items.drop i = r :: items.drop (i + 1) := by
      rw [List.drop_eq_getElem_cons hlt]
      rw [List.getElem?_eq_getElem hlt] at hr
      rw [Option.some.inj hr]
    rw [hd] at hf
    obtain ⟨e1, h5, h6⟩ := Option.bind_eq_some_iff.mp hf
    obtain ⟨o, h7, h8⟩ := Option.bind_eq_some_iff.mp h6
    obtain ⟨go, yl⟩ := wk.go i r w' gs hr
    refine .inr ⟨go, fun σ2 H2 => ∃ m', m' < items.length - i ∧ ∃ env' w', w'.H = H2 ∧ Wok (zx X cl) env' σ2 w' ∧ Gs w1 w' ∧ m' = items.length - (i + 1) ∧ i + 1 ≤ items.length ∧ forZ A s (items.drop (i + 1)) env' = some out, fun _ _ z => z, fun x H2 hy => ?_⟩
    obtain ⟨w2, g2, rfl, r2⟩ := yl x H2 hy
    refine ⟨env', w2, r, e1, rfl, k'.mono g2, r2, h5, fun σ3 w3 g3 k3 _ _ => ⟨e1, w3, o, rfl, k3, h7, ?_⟩⟩
    have g23 : Gs w' w3 := (g2.trans g3).gs k'.wf
    cases o with
    | nx e' => exact fun σ4 w4 g4 k4 => ⟨_, by omega, e', w4, rfl, k4, (gs.trans g23).trans g4, rfl, hlt, h8⟩
    | ct e' => exact fun σ4 w4 g4 k4 => ⟨_, by omega, e', w4, rfl, k4, (gs.trans g23).trans g4, rfl, hlt, h8⟩
    | bk e' =>
      cases h8
      exact fun σ4 w4 g4 k4 => q σ4 w4 ((((g1.gs k.wf).trans gs).trans g23).trans g4) k4
    | rt x T =>
      cases h8
      exact fun v w4 g4 r4 t4 => q v w4 ((((g1.gs k.wf).trans gs).trans g23).trans g4) r4 t4
    | ex c ns xs e =>
      cases h8
      exact fun cls d σ4 w4 g4 k4 e4 => q cls d σ4 w4 ((((g1.gs k.wf).trans gs).trans g23).trans g4) k4 e4
  · have e : i = items.length := by omega
    subst e
    refine .inl ⟨wk.stop w' gs, ?_⟩
    rw [List.drop_length] at hf
    cases hf
    exact q σ' w' ((g1.gs k.wf).trans gs) k'
end
/-! defs -/
def finX (o : OutX) : Option (XRes HV) := match o with
  | .rt x T => some (.val x T)
  | .nx e => some (.val (.pu .non) e.t)
  | .ex c ns xs e => some (.exc c ns xs e.t)
  | _ => none
section
variable {P : Program} {w : World} {K : PySem.W.Frag} {mg : Str → Option Value} {base : Heap} {cl : Str → Option Addr}
theorem ok_defX {x qual : Str} {st : Stmt} {f : Addr} {fd : FuncData} {N ps : List Str} {k : Nat} {g : List HV → Tb → Option (XRes HV)} {B : SX} (F : Fun K x qual st f fd) (S : FnScope N ps (defScope st)) (har : ∀ xs T r, g xs T = some r → xs.length = ps.length)
    (hb : ∀ (cdv : Value) (A : Around) (outer : List Env) (s : Shared) (H : Hp) (E : XK), Room k (A.deeper (PyProof.Rows.envOfC qual (defScope st) s.heap.objs.size f cdv)) → XS (cxOf (L2.CX P w) P w K mg base N qual (defScope st) f cdv A outer s H E) →
      Takes (cxOf (L2.CX P w) P w K mg base N qual (defScope st) f cdv A outer s H E) (fun cls d _ H => E cls d H) → PassesOwn (model P w) (cxOf (L2.CX P w) P w K mg base N qual (defScope st) f cdv A outer s H E).A (cxOf (L2.CX P w) P w K mg base N qual (defScope st) f cdv A outer s H E).env (cxOf (L2.CX P w) P w K mg base N qual (defScope st) f cdv A outer s H E).xe →
      PSs (cxOf (L2.CX P w) P w K mg base N qual (defScope st) f cdv A outer s H E) (defBody st) (tSX ⟨K, cl⟩ (fun cls d _ H => E cls d H) B))
    (hsem : ∀ xs T r, g xs T = some r → (B (env0H N.length xs T)).bind finX = some r) : FnOk P w K mg base (L2.CX P w) (k + 1) f fd ps (spX ⟨K, cl⟩ g) := by
  refine F.okX S (fun vs H Q E h => ?_) (fun cdv A outer s H vs Q E hr h => ?_)
  · obtain ⟨w0, xs, T, r, _, _, _, h1, h2, _⟩ := h
    rw [h1.length, har _ _ _ h2]
  · obtain ⟨w0, xs, T, r, rfl, hw, ht, h1, h2, q1, q2⟩ := h
    have hX : XS (cxOf (L2.CX P w) P w K mg base N qual (defScope st) f cdv A outer s w0.H E) := ⟨rfl, S.nd, by have := hr.un; show (A.deeper _).units + 65 < cLine; omega⟩
    refine ⟨_, hb cdv A outer s w0.H E hr hX (takes_of rfl rfl rfl rfl) (passes_of rfl), ?_⟩
    obtain ⟨out, e1, e2⟩ := Option.bind_eq_some_iff.mp (hsem xs T _ h2)
    have hle : xs.length ≤ N.length := by
      have := congrArg List.length S.pre
      rw [List.length_take] at this
      have := har _ _ _ h2
      omega
    refine ⟨env0H N.length xs T, w0, out, rfl, wok_startH hw ht h1 hle, e1, ?_⟩
    unfold finX at e2
    split at e2
    · cases e2
      exact fun v w' gs hv tb => q1 _ _ rfl v w' gs hv tb
    · cases e2
      exact fun σ' w' gs k' => q1 _ _ rfl .non w' gs .non k'.tb
    · cases e2
      exact fun cls d σ' w' gs k' ex => q2 _ _ _ _ rfl cls d w' gs k'.tb ex
    · cases e2
end
end Vf
namespace Vf
open PySem L2
/-! ### methods, new instances; both may raise -/
def tMethX (C : Addr) (m : Str) (sp : Sp) (E : L2.St → XK) (ta : TE) (t : TA) : TE := fun σ H Q => ta σ H fun x H1 => ∃ a dx fs, x = .ref a ∧ H1 a = some (.ins C dx fs) ∧ fs.lookup m = none ∧ t σ H1 fun vs H2 => sp (x :: vs) H2 Q (E σ)
def tMakeX (C : Addr) (sp : Sp) (E : L2.St → XK) (t : TA) : TE := fun σ H Q => t σ H fun vs H1 => ∀ x dx, H1 x = none → H1 dx = none → dx ≠ x → sp (.ref x :: vs) (upd (upd H1 dx (.own x)) x (.ins C dx [])) (fun v H2 => v = .non ∧ Q (.ref x) H2) (E σ)
section
open PySem.Spec PyProof.Rows
variable {X : Cx} {CX : CXT} {k : Nat} {f C : Addr} {fd : FuncData} {ps : List Str} {sp : Sp} {E : L2.St → XK} {x m : Str} {p pos apos : Pos} {e o : Expr} {es : List Expr} {ta : TE} {t : TA}
theorem pe_meth0X {pl : Sem Bool} (he : PE X o ta) (c : Cls X.K C) (hm : Meth X.K C m f) (F : FnOk X.prog X.w X.K X.mg X.base CX k f fd ps sp) (hr : Room k X.A) (hb : Binds X.K fd ps []) (hx : ∀ σ, PassesAt CX X σ (E σ))
    (ht : eval (.Call (.Attribute o m apos) [] [] pos) X.env = (do
      let ov ← eval o X.env
      standAt apos.atName
      let (f, first) ← holding [ov] (getMethod ov m pl)
      callWith pos f first (backTo pos (starEach [] X.env)) (backToKw pos (keywordEach [] X.env)))) :
    PE X (.Call (.Attribute o m apos) [] [] pos) (tMethX C m sp E ta tNil) := by
  refine ⟨fun pins s σ H Q I h => ?_⟩
  refine PySem.W.methodCall_KW (pl := pl) (thn (he.run pins s σ H _ I h) fun u s1 ⟨x, H1, I1, rx, a, dx, fs, ex, ea, l, q⟩ => ?_) ht
  subst ex
  obtain rfl : u = Value.ref a := rx
  refine getmeth_ok I1 ea c hm l ?_
  exact PySem.W.callWith_K0 (first := [.ref a]) I1.kIn hm.kp (run_fnS (us := [.ref a]) (vs := [.ref a]) F hr hb (hx σ) I1 (.cons rfl .nil) q)
theorem run_makeX {pins : List (Addr × Obj)} {σ : L2.St} {H : Hp} {s : Shared} {Q : VK} {us : List Value} {vs : List V} (M : Mk X.K C f) (F : FnOk X.prog X.w X.K X.mg X.base CX k f fd ps sp) (hr : Room (k + 1) X.A) (hb : Binds X.K fd ps [])
    (hx : ∀ σ, PassesAt CX X σ (E σ)) (I : Inv X pins σ H s) (r : Vals vs us)
    (h : ∀ x dx, H x = none → H dx = none → dx ≠ x → sp (.ref x :: vs) (upd (upd H dx (.own x)) x (.ins C dx [])) (fun v H2 => v = .non ∧ Q (.ref x) H2) (E σ)) :
    wpAny (model X.prog X.w) X.A (call (.ref C) us) (EP X pins σ Q) X.xe s := by
  have hq := h (s.heap.objs.size + 1) s.heap.objs.size (I.hok.fresh (Nat.le_succ _)) (I.hok.fresh (Nat.le_refl _)) (Nat.ne_of_lt (Nat.lt_succ_self _))
  have I2 := Inv.made (C := C) I
  have r2 : Vals (V.ref (s.heap.objs.size + 1) :: vs) (Value.ref (s.heap.objs.size + 1) :: us) := .cons rfl r
  have hl : (Value.ref (s.heap.objs.size + 1) :: us ++ []).length = ps.length := by
    have e := r2.length
    rw [F.len _ _ _ _ hq] at e
    rw [List.append_nil]
    exact e.symm
  have b := hb _ (Value.ref (s.heap.objs.size + 1) :: us) I2.kIn hl
  rw [List.append_nil] at b
  refine wpAny_call (make_map (f := f) I.kIn M.makes M.init (beq_iff_eq.mp M.fn) (codeAny_mono (F.run _ X.stack _ _ ⟨Value.ref (s.heap.objs.size + 1) :: us, []⟩ (Value.ref (s.heap.objs.size + 1) :: us) _ _ (E σ) (hr.make C us [])
    (I2.env0.make C us []) b r2 hq) fun r s' hq' => ?_))
  cases r with
  | error e => exact hx σ pins _ _ e s' I2 hq'
  | ok fl =>
    cases fl with
    | ret u =>
      obtain ⟨v, H', I3, rv, ev, q3⟩ := I2.after hq'
      subst ev
      exact ⟨rv, ⟨V.ref (s.heap.objs.size + 1), H', I3, rfl, q3⟩⟩
    | next => exact False.elim hq'
    | brk => exact False.elim hq'
    | cont => exact False.elim hq'
theorem pe_makeX (M : Mk X.K C f) (F : FnOk X.prog X.w X.K X.mg X.base CX k f fd ps sp) (hr : Room (k + 1) X.A) (hg : Gl X x) (hm : X.mg x = some (.ref C)) (hb : Binds X.K fd ps []) (hx : ∀ σ, PassesAt CX X σ (E σ))
    (ha : PA X (e :: es) t) (hdb : (x == ("__debug__" : Str)) = false) (he : starEach (e :: es) X.env = (false, eval e X.env) :: starEach es X.env) (hpl : (backTo pos (starEach es X.env)).any (·.1) = false) :
    PE X (.Call (.Name x p) (e :: es) [] pos) (tMakeX C sp E t) := by
  refine ⟨fun pins s σ H Q I h => ?_⟩
  refine wpAny_Call_Name_kw (ld_glob I hg hm ?_ hdb)
  refine PySem.W.callWith_K (h₀ := X.base) I.ok.mod.kin M.kp (thn (ha.run pos pins s σ H _ I h) fun us s1 ⟨vs, H1, I1, r, q⟩ => ⟨I1.kIn, ?_⟩) he hpl
  exact run_makeX M F hr hb hx I1 r q
end
structure MeX (P : Program) (w : World) (K : PySem.W.Frag) (mg : Str → Option Value) (base : Heap) (cl : Str → Option Addr) (k : Nat) (c m : Str) (ps : List Str) (g : List HV → Tb → Option (XRes HV)) : Prop where
  ex : ∃ C f fd, Cls K C ∧ Meth K C m f ∧ FnOk P w K mg base (L2.CX P w) k f fd ps (spX ⟨K, cl⟩ g) ∧ cl c = some C ∧ Binds K fd ps []
structure MaX (P : Program) (w : World) (K : PySem.W.Frag) (mg : Str → Option Value) (base : Heap) (cl : Str → Option Addr) (k : Nat) (c : Str) (ps : List Str) (g : List HV → Tb → Option (XRes HV)) : Prop where
  ex : ∃ C f fd, Mk K C f ∧ FnOk P w K mg base (L2.CX P w) k f fd ps (spX ⟨K, cl⟩ g) ∧ mg c = some (.ref C) ∧ cl c = some C ∧ Binds K fd ps []
def xMeth (c m : Str) (gg : List HV → Tb → Option (XRes HV)) (o : FX) (fa : FXA) : FX := fun env => bX (o env) fun x T1 => (insOf T1 x).bind fun q => if q.1 = c ∧ m ∉ q.2 then bX (fa ⟨env.s, T1⟩) fun xs T2 => gg (x :: xs) T2 else none
/-- behind __init__: the new object -/
def mkR (n : Nat) : XRes HV → Option (XRes HV)
  | .val (.pu .non) T => some (.val (.ob n) T)
  | .val _ _ => none
  | .exc c ns xs T => some (.exc c ns xs T)
def mkX (c : Str) (gi : List HV → Tb → Option (XRes HV)) (xs : List HV) (T : Tb) : Option (XRes HV) := (gi (.ob T.length :: xs) (T ++ [some (.ins c [] [])])).bind (mkR T.length)
def xMake (c : Str) (gi : List HV → Tb → Option (XRes HV)) (fa : FXA) : FX := fun env => bX (fa env) (mkX c gi)
section
variable {X : Cx} {cl : Str → Option Addr} {W : WX} {a b c e o : Expr} {es : List Expr} {f g h : FX} {fa : FXA} {ct dt : FXT} {pos apos : Pos} {gg : List HV → Tb → Option (XRes HV)} {ps : List Str} {k j : Nat}
theorem jx_meth0 {c m : Str} {pl : Sem Bool} (M : MeX X.prog X.w X.K X.mg X.base cl k c m ps gg) (tk : Takes X W) (hr : Room j X.A) (ho : PE X o (tX (zx X cl) W f)) (hkj : k ≤ j := by decide)
    (ht : eval (.Call (.Attribute o m apos) [] [] pos) X.env = (do
      let ov ← eval o X.env
      standAt apos.atName
      let (f, first) ← holding [ov] (getMethod ov m pl)
      callWith pos f first (backTo pos (starEach [] X.env)) (backToKw pos (keywordEach [] X.env))) := by rfl) : PE X (.Call (.Attribute o m apos) [] [] pos) (tX (zx X cl) W (xMeth c m gg f xNil)) := by
  obtain ⟨C, fI, fd, c1, me, F, hcl, hb⟩ := M.ex
  refine pe_w (pe_meth0X ho c1 me F (hr.mono hkj) hb (fun σ => passAt tk σ) ht) fun σ H Q ⟨env, w, r, e, kk, h, q⟩ => ?_
  subst e
  refine tX_bind kk h q.late fun x T1 v w1 h1 g1 k1 hx => ?_
  obtain ⟨⟨c', fs⟩, h4, h5⟩ := Option.bind_eq_some_iff.mp h1
  dsimp only at h5
  split at h5
  · rename_i hc
    obtain ⟨rfl, hm⟩ := hc
    obtain ⟨p, C', dx, vs0, rfl, h6, h7⟩ := insOf_ok k1.wf k1.tb hx h4
    rw [show (zx X cl).cl c' = some C from hcl] at h7
    cases h7
    refine ⟨p, dx, _, rfl, h6, lookup_no hm, ?_⟩
    have h2 : gg [x] T1 = some r := h5
    exact spX_at k1 (xs := [x]) (vs := [V.ref p]) ⟨hx, trivial⟩ h2 ((q.late.mono g1).fin fun x T' e => by subst e; exact fun v w' g' k' hv => q v w' (g1.trans g') k' hv)
  · cases h5
theorem mk_end {Z : Zc} {s : List Sl} {σ : L2.St} {w w1 : Wd} {Q : VK} {T1 : Tb} {r : XRes HV} {c : Str} {C : Addr} {xs : List HV} {vs : List V} (hcl : Z.cl c = some C) (h1 : mkX c gg xs T1 = some r) (q : Fin Z W s σ w (PvX Z s σ w Q) r) (g1 : Gs w w1) (k1 : Wok Z ⟨s, T1⟩ σ w1) (hxs : HvsOk Z w1 vs xs)
    (px dx : Addr) (hpx : w1.H px = none) (hdx : w1.H dx = none) (hne : dx ≠ px) : spX Z gg (.ref px :: vs) (upd (upd w1.H dx (.own px)) px (.ins C dx [])) (fun v H2 => v = .non ∧ Q (.ref px) H2) (WE W σ) := by
  obtain ⟨r0, h2, h3⟩ := Option.bind_eq_some_iff.mp h1
  have hn : upd w1.H dx (.own px) px = none := by rw [upd_ne (fun z => hne z.symm)]; exact hpx
  have gH : Same w1.H (upd (upd w1.H dx (.own px)) px (.ins C dx [])) := (same_up hdx).trans (same_up hn)
  have g2 : Gr w1 ⟨w1.N, w1.B, upd (upd w1.H dx (.own px)) px (.ins C dx []), w1.m⟩ := ⟨⟨k1.wf.nb, k1.wf.bh.trans gH⟩, .refl _, .refl _, gH, fun _ z => .inl z, fun _ z => .inl z, rfl⟩
  obtain ⟨k2, g3⟩ := k1.tnew g2 (p := px) (o := .ins C dx []) (M := .ins c [] []) hpx upd_same (k1.wf.bh.free hpx) ⟨C, dx, [], upd_same, hcl, rfl, trivial⟩
  have hself : HvOk Z ⟨w1.N, w1.B, upd (upd w1.H dx (.own px)) px (.ins C dx []), w1.m ++ [px]⟩ (.ref px) (.ob T1.length) := ⟨px, rfl, by
    have hlen : T1.length = w1.m.length := k1.tb.len
    show (w1.m ++ [px])[T1.length]? = _
    rw [hlen, List.getElem?_append_right (Nat.le_refl _)]
    simp⟩
  refine spX_at (w := ⟨w1.N, w1.B, upd (upd w1.H dx (.own px)) px (.ins C dx []), w1.m ++ [px]⟩) k2 (xs := .ob T1.length :: xs) ⟨hself, HvsOk.mono (w := w1) (w' := ⟨w1.N, w1.B, upd (upd w1.H dx (.own px)) px (.ins C dx []), w1.m ++ [px]⟩) (.refl _) (List.prefix_append _ _) hxs⟩ h2 ?_
  cases r0 with
  | exc c' ns ys T' =>
    cases h3
    exact (q.late.mono (g1.trans g3)).fin fun x T e => nomatch e
  | val x T' =>
    unfold mkR at h3
    split at h3
    · rename_i e0
      cases e0
      cases h3
      exact fun v w' g4 k4 hnon => ⟨rp_val (d := .non) rfl hnon, q _ w' ((g1.trans g3).trans g4) k4 (hself.mono g4.n g4.m)⟩
    · cases h3
    · rename_i e0
      cases e0
theorem jx_make {c : Str} {p : Pos} (M : MaX X.prog X.w X.K X.mg X.base cl k c ps gg) (tk : Takes X W) (hr : Room j X.A) (ha : PA X (a :: es) (tXA (zx X cl) W fa)) (hkj : k + 1 ≤ j := by decide) (hg : Gl X c := by rfl) (hdb : (c == ("__debug__" : Str)) = false := by decide)
    (he : starEach (a :: es) X.env = (false, eval a X.env) :: starEach es X.env := by rfl) (hpl : (backTo pos (starEach es X.env)).any (·.1) = false := by rfl) : PE X (.Call (.Name c p) (a :: es) [] pos) (tX (zx X cl) W (xMake c gg fa)) := by
  obtain ⟨C, fI, fd, mk, F, hm, hcl, hb⟩ := M.ex
  refine pe_w (pe_makeX mk F (hr.mono hkj) hg hm hb (fun σ => passAt tk σ) ha hdb he hpl) fun σ H Q ⟨env, w, r, e, kk, h, q⟩ => ?_
  subst e
  refine tXA_bind kk h q.late fun xs T1 vs w1 h1 g1 k1 hxs => ?_
  exact fun px dx hpx hdx hne => mk_end (Z := zx X cl) hcl h1 q g1 k1 hxs px dx hpx hdx hne
end
end Vf
namespace Vf
open PySem L2
/-! ### walks over what stands in the table -/
def srcM (T : Tb) : HV → Option Mob
  | .pu (.lst ds) => some (.lst (ds.map .pu))
  | .pu (.scr ds) => some (.lst (ds.map .pu))
  | .pu (.tup ds) => some (.tup (ds.map .pu))
  | .pu _ => none
  | .ob k => match T[k]? with
    | some (some (.lst xs)) => some (.lst xs)
    | some (some (.tup xs)) => some (.tup xs)
    | _ => none
def mobI : Mob → List HV
  | .lst xs => xs | .tup xs => xs | .ins _ _ xs => xs | .dic _ xs => xs
theorem src_lst {Z : Zc} {T : Tb} {w : Wd} (hw : Wf w) (t : TbOk Z T w) {v : V} {x : HV} {xs : List HV} (hx : HvOk Z w v x) (h : srcM T x = some (.lst xs)) : ∃ p vs, v = .ref p ∧ SqL Z.K w.H p vs ∧ HvsOk Z w vs xs := by
  cases x with
  | pu d =>
    unfold srcM at h
    split at h
    · rename_i e
      cases e
      cases h
      obtain ⟨p, vs, e1, e2, e3⟩ := RV.lst (t := .N) hw hx
      exact ⟨p, vs, e1, SqL.of e2, hvs_pu e3⟩
    · rename_i e
      cases e
      cases h
      obtain ⟨p, vs, e1, e2, e3⟩ := RV.scr (t := .N) hw hx
      exact ⟨p, vs, e1, e2, hvs_pu e3⟩
    · cases h
    · cases h
    · rename_i e
      cases e
  | ob k =>
    unfold srcM at h
    dsimp only at h
    split at h
    · rename_i ys ej
      cases h
      obtain ⟨a, vs, e1, e2, e3, e4, e5⟩ := ob_lst t hx ej
      exact ⟨a, vs, e1, SqL.of e4, e5⟩
    · cases h
    · cases h
theorem src_tup {Z : Zc} {T : Tb} {w : Wd} (hw : Wf w) (t : TbOk Z T w) {v : V} {x : HV} {xs : List HV} (hx : HvOk Z w v x) (h : srcM T x = some (.tup xs)) : ∃ p vs, v = .ref p ∧ SqT Z.K w.H p vs ∧ HvsOk Z w vs xs := by
  cases x with
  | pu d =>
    unfold srcM at h
    split at h
    · cases h
    · cases h
    · rename_i e
      cases e
      cases h
      obtain ⟨p, vs, e1, e2, e3⟩ := RV.tup (t := .N) hw hx
      exact ⟨p, vs, e1, e2, hvs_pu e3⟩
    · cases h
    · rename_i e
      cases e
  | ob k =>
    unfold srcM at h
    dsimp only at h
    split at h
    · cases h
    · rename_i ys ej
      cases h
      obtain ⟨a, rfl, h1⟩ := hx
      obtain ⟨a', h2, h3, vs, h4, h5⟩ := t.at_ k _ ej
      rw [h1] at h2
      cases h2
      exact ⟨a, vs, rfl, .of h4, h5⟩
    · cases h
/-- what a turn finds -/
def WkH (Z : Zc) (J : It) (w : Wd) (x : HV) (M : Mob) : Prop := ∀ (w' : Wd) (T' : Tb), Gs w w' → TbOk Z T' w' → srcM T' x = some M → J.stop (mobI M).length w'.H ∧
  ∀ (i : Nat) (y : HV), (mobI M)[i]? = some y → J.go i w'.H ∧ ∀ v H', J.yld i w'.H v H' → H' = w'.H ∧ HvOk Z w' v y
def PiX (Z : Zc) (s : List Sl) (σ : L2.St) (w : Wd) (R : It → Hp → Prop) (x : HV) (T : Tb) : Prop := ∃ M, srcM T x = some M ∧ ∀ J w', Gs w w' → Wok Z ⟨s, T⟩ σ w' → WkH Z J w' x M → R J w'.H
def tIH (Z : Zc) (W : WX) (f : FX) : TI := fun σ H R => ∃ env w r, w.H = H ∧ Wok Z env σ w ∧ f env = some r ∧ Fin Z W env.s σ w (PiX Z env.s σ w R) r
theorem srcM_kind {T : Tb} {x : HV} {M : Mob} (h : srcM T x = some M) : (∃ xs, M = .lst xs) ∨ ∃ xs, M = .tup xs := by
  unfold srcM at h
  split at h
  · cases h; exact .inl ⟨_, rfl⟩
  · cases h; exact .inl ⟨_, rfl⟩
  · cases h; exact .inr ⟨_, rfl⟩
  · cases h
  · split at h
    · cases h; exact .inl ⟨_, rfl⟩
    · cases h; exact .inr ⟨_, rfl⟩
    · cases h
section
variable {X : Cx} {cl : Str → Option Addr} {W : WX} {a b c e o tg : Expr} {es : List Expr} {f g h : FX} {pos : Pos} {is js : List Nat} {s : HV → Ev → Option Ev} {l : List HV → Ev → Option Ev}
theorem jih_it (ha : PE X a (tX (zx X cl) W f)) : PI X tg a (tIH (zx X cl) W f) := by
  refine ⟨fun pins s σ H R I ⟨env, w, r, e, k, hr, q⟩ => ?_⟩
  subst e
  cases r with
  | exc c ns xs T =>
    exact (pi_list ha).run pins s σ _ R I ⟨env, w, _, rfl, k, hr, q⟩
  | val x T =>
    obtain ⟨M, hM, q⟩ := q
    rcases srcM_kind hM with ⟨xs, rfl⟩ | ⟨xs, rfl⟩
    · refine (pi_list ha).run pins s σ _ R I ⟨env, w, _, rfl, k, hr, fun v w1 g1 k1 hx => ?_⟩
      obtain ⟨p, vs, rfl, h1, h2⟩ := src_lst k1.wf k1.tb hx hM
      refine ⟨p, rfl, ⟨_, h1⟩, q _ w1 g1 k1 fun w' T' g' t' hM' => ?_⟩
      obtain ⟨p', vs', e1, h3, h4⟩ := src_lst g'.wf t' (hx.mono g'.n g'.m) hM'
      cases e1
      refine ⟨⟨vs', h3, by rw [h4.length]; exact Nat.le_refl _⟩, fun i y hi => ?_⟩
      obtain ⟨u, h5, h6⟩ := h4.get hi
      refine ⟨⟨vs', u, h3, h5⟩, fun v H' hy => ⟨hy.1, ?_⟩⟩
      have := hy.2 vs' h3
      rw [h5] at this
      cases this
      exact h6
    · refine (pi_tup ha).run pins s σ _ R I ⟨env, w, _, rfl, k, hr, fun v w1 g1 k1 hx => ?_⟩
      obtain ⟨p, vs, rfl, h1, h2⟩ := src_tup k1.wf k1.tb hx hM
      refine ⟨p, rfl, ⟨_, h1⟩, q _ w1 g1 k1 fun w' T' g' t' hM' => ?_⟩
      obtain ⟨p', vs', e1, h3, h4⟩ := src_tup g'.wf t' (hx.mono g'.n g'.m) hM'
      cases e1
      refine ⟨⟨vs', h3, by rw [h4.length]; exact Nat.le_refl _⟩, fun i y hi => ?_⟩
      obtain ⟨u, h5, h6⟩ := h4.get hi
      refine ⟨⟨vs', u, h3, h5⟩, fun v H' hy => ⟨hy.1, ?_⟩⟩
      have := hy.2 vs' h3
      rw [h5] at this
      cases this
      exact h6
/-! targets -/
def tGX (Z : Zc) (is : List Nat) (st : HV → Ev → Option Ev) : TG := fun v σ H Q => ∃ env w x e, w.H = H ∧ Wok Z env σ w ∧ HvOk Z w v x ∧ st x env = some e ∧
  ∀ σ' w', Gr w w' → Wok Z e σ' w' → (∀ n, n ∉ is → σ'[n]? = σ[n]?) → σ'.length = σ.length → Q σ' w'.H
def setXCons (s : HV → Ev → Option Ev) (l : List HV → Ev → Option Ev) : List HV → Ev → Option Ev := fun xs env => match xs with | x :: xs => (s x env).bind fun e => l xs e | _ => none
def setXTup (n : Nat) (l : List HV → Ev → Option Ev) : HV → Ev → Option Ev := fun x env => (srcM env.t x).bind fun M => if (mobI M).length = n then l (mobI M) env else none
theorem jgx_name (i : Nat) {x : Str} (hX : XS X) (hi : X.N[i]? = some x := by rfl) (hx : Loc X.env.scope x := by first | exact Or.inl rfl | exact Or.inr rfl) (hf : X.fn x = true ∨ X.env.scope.names.lookup x = some .local := by first | exact .inl rfl | exact .inr rfl) : PG X (.Name x pos) (tGX (zx X cl) [i] (setHS i)) := by
  refine ⟨fun pins s σ H v u Q I r ⟨env, w, rr, e, eH, k, hv, hs, q⟩ => (pg_name (i := i) hX.nd hi hx hf).run pins s σ H v u Q I r ?_⟩
  subst eH
  exact q _ w (Gr.refl k.wf) (setHS_ok k hs hv) (fun n hn => List.getElem?_set_ne fun e => hn (by rw [← e]; exact List.mem_singleton.mpr rfl)) List.length_set
end
noncomputable def forH (A : SX) (s : HV → Ev → Option Ev) (x : HV) (M : Mob) : List HV → Ev → Option OutX
  | [], env => cif (srcM env.t x = some M) (some (.nx env)) none
  | y :: ys, env => cif (srcM env.t x = some M) ((s y env).bind fun e => (A e).bind fun o => match o with
    | .nx e' => forH A s x M ys e'
    | .ct e' => forH A s x M ys e'
    | .bk e' => some (.nx e')
    | .rt x T => some (.rt x T)
    | .ex c ns xs e => some (.ex c ns xs e)) none
noncomputable def forHK (A : SX) (s : HV → Ev → Option Ev) (sl : List Sl) (x : HV) (T : Tb) : Option OutX := (srcM T x).bind fun M => forH A s x M (mobI M) ⟨sl, T⟩
noncomputable def zForH (f : FX) (s : HV → Ev → Option Ev) (A : SX) : SX := fun env => bS env (f env) (forHK A s env.s)
theorem cif_get {α : Type} {p : Prop} {a : Option α} {b : α} (h : cif p a none = some b) : p ∧ a = some b := by
  unfold cif at h
  split at h
  · exact ⟨by assumption, h⟩
  · cases h
section
variable {X : Cx} {cl : Str → Option Addr} {W : WX} {a b c e o tg iter : Expr} {es : List Expr} {f g h : FX} {pos : Pos} {is js : List Nat} {s : HV → Ev → Option Ev} {A : SX} {body : List Stmt}
theorem tIH_then {Z : Zc} {D : Ends} {σ : L2.St} {w : Wd} {env : Ev} {out : OutX} {k : HV → Tb → Option OutX} {R : It → Hp → Prop} (kk : Wok Z env σ w) (h : bS env (f env) k = some out) (q : OutXOk Z W D w out)
    (hq : ∀ x T, k x T = some out → PiX Z env.s σ w R x T) : tIH Z W f σ w.H R := by
  obtain ⟨r, h1, h2⟩ := bS_fin (P := PiX Z env.s σ w R) h q hq
  exact ⟨env, w, r, rfl, kk, h1, h2⟩
theorem jz_forH (hp : PassesOwn (model X.prog X.w) X.A X.env X.xe) (hX : XS X) (hi : PE X iter (tX (zx X cl) W f)) (hg : PG X tg (tGX (zx X cl) is s)) (hb : PSs X body (tSX (zx X cl) W A)) (hs : ∀ x, foldedSetIterable iter X.env x = pure x := by intro _; rfl) :
    PS X (.For tg iter body [] pos) (tSX (zx X cl) W (zForH f s A)) := by
  refine ps_w (ps_for hp hX.calm (jih_it hi) hg hb hs) fun D σ H ⟨env, w, out, e, k, hr, q⟩ => ?_
  subst e
  refine tIH_then k hr q fun x T hk => ?_
  · obtain ⟨M, hM, h4⟩ := Option.bind_eq_some_iff.mp hk
    refine ⟨M, hM, fun J w1 g1 k1 wk => ?_⟩
    refine ⟨fun i m σ' H' => ∃ env' w', w'.H = H' ∧ Wok (zx X cl) env' σ' w' ∧ Gs w1 w' ∧ m = (mobI M).length - i ∧ i ≤ (mobI M).length ∧ forH A s x M ((mobI M).drop i) env' = some out, ⟨(mobI M).length, ⟨env.s, T⟩, w1, rfl, k1, Gs.refl k1.wf, rfl, Nat.zero_le _, h4⟩, ?_⟩
    rintro i m σ' H' ⟨env', w', rfl, k', gs, rfl, hi, hf⟩
    by_cases hlt : i < (mobI M).length
    · obtain ⟨y, hr⟩ : ∃ r, (mobI M)[i]? = some r := ⟨(mobI M)[i], List.getElem?_eq_getElem hlt⟩
      have hd : (mobI M).drop i = y :: (mobI M).drop (i + 1) := by
        rw [List.drop_eq_getElem_cons hlt]
        rw [List.getElem?_eq_getElem hlt] at hr
        rw [Option.some.inj hr]
      rw [hd] at hf
      obtain ⟨hsrc, hf⟩ := cif_get hf
      obtain ⟨e1, h5, h6⟩ := Option.bind_eq_some_iff.mp hf
      obtain ⟨o, h7, h8⟩ := Option.bind_eq_some_iff.mp h6
      obtain ⟨go, yl⟩ := (wk w' env'.t gs k'.tb hsrc).2 i y hr
      refine .inr ⟨go, fun σ2 H2 => ∃ m', m' < (mobI M).length - i ∧ ∃ env' w', w'.H = H2 ∧ Wok (zx X cl) env' σ2 w' ∧ Gs w1 w' ∧ m' = (mobI M).length - (i + 1) ∧ i + 1 ≤ (mobI M).length ∧ forH A s x M ((mobI M).drop (i + 1)) env' = some out, fun _ _ z => z, fun v H2 hy => ?_⟩
      obtain ⟨rfl, r2⟩ := yl v H2 hy
      refine ⟨env', w', y, e1, rfl, k', r2, h5, fun σ3 w3 g3 k3 _ _ => ⟨e1, w3, o, rfl, k3, h7, ?_⟩⟩
      have g23 : Gs w' w3 := g3.gs k'.wf
      cases o with
      | nx e' => exact fun σ4 w4 g4 k4 => ⟨_, by omega, e', w4, rfl, k4, (gs.trans g23).trans g4, rfl, hlt, h8⟩
      | ct e' => exact fun σ4 w4 g4 k4 => ⟨_, by omega, e', w4, rfl, k4, (gs.trans g23).trans g4, rfl, hlt, h8⟩
      | bk e' =>
        cases h8
        exact fun σ4 w4 g4 k4 => q σ4 w4 (((g1.trans gs).trans g23).trans g4) k4
      | rt x T =>
        cases h8
        exact fun v w4 g4 r4 t4 => q v w4 (((g1.trans gs).trans g23).trans g4) r4 t4
      | ex c ns xs e =>
        cases h8
        exact fun cls d σ4 w4 g4 k4 e4 => q cls d σ4 w4 (((g1.trans gs).trans g23).trans g4) k4 e4
    · have e : i = (mobI M).length := by omega
      subst e
      rw [List.drop_length] at hf
      obtain ⟨hsrc, hf⟩ := cif_get hf
      cases hf
      exact .inl ⟨(wk w' env'.t gs k'.tb hsrc).1, q σ' w' (g1.trans gs) k'⟩
end
end Vf
namespace Vf
open PySem L2
/-! ### comprehensions whose items may be objects of the table -/
def W0 : WX := fun _ _ _ _ => False
def noOwn (s : List Sl) : Prop := ∀ ds, Sl.own ds ∉ s
def ownFree : List Sl → Bool
  | [] => true
  | .own _ :: _ => false
  | _ :: r => ownFree r
theorem ownFree_no : ∀ {s : List Sl}, ownFree s = true → noOwn s
  | [], _ => fun ds h => by cases h
  | .un :: r, h => fun ds z => (List.mem_cons.mp z).elim (fun e => nomatch e) (ownFree_no (s := r) h ds)
  | .val _ _ :: r, h => fun ds z => (List.mem_cons.mp z).elim (fun e => nomatch e) (ownFree_no (s := r) h ds)
  | .han _ :: r, h => fun ds z => (List.mem_cons.mp z).elim (fun e => nomatch e) (ownFree_no (s := r) h ds)
  | .own _ :: r, h => nomatch h
theorem wok_slots {Z : Zc} {s : List Sl} {T T' : Tb} {σ : L2.St} {w w' : Wd} (k : Wok Z ⟨s, T⟩ σ w) (no : noOwn s) (g : Gs w w') (tb : TbOk Z T' w') : Wok Z ⟨s, T'⟩ σ w' :=
  ⟨g.wf, k.len, fun i sl e => by
    obtain ⟨o, h1, h2⟩ := k.sl i sl e
    refine ⟨o, h1, ?_⟩
    cases sl with
    | un => exact trivial
    | val t d =>
      obtain ⟨v, e1, e2⟩ := h2
      exact ⟨v, e1, e2.imp (fun ⟨x, y⟩ => ⟨x, Rp.mono g.n y⟩) fun ⟨x, y⟩ => ⟨x, Rp.mono g.b y⟩⟩
    | han n =>
      obtain ⟨a, e1, e2⟩ := h2
      refine ⟨a, e1, ?_⟩
      obtain ⟨l, hl⟩ := g.m
      rw [← hl, List.getElem?_append_left (List.getElem?_eq_some_iff.mp e2).1]
      exact e2
    | own ds => exact (no ds (List.mem_of_getElem? e)).elim,
  fun i j ds es p hne e1 e2 => (no ds (List.mem_of_getElem? e1)).elim, tb⟩
/-- D is lent: nobody changes it meanwhile -/
def lend (w : Wd) (D : Addr) (o : HO) : Wd := ⟨w.N, upd w.B D o, w.H, w.m⟩
theorem lend_wf {w : Wd} (hw : Wf w) {D : Addr} {o : HO} (h : w.H D = some o) (hb : w.B D = none) : Wf (lend w D o) := by
  refine ⟨?_, fun a u e => ?_⟩
  · exact same_up1 hw.nb (hw.nb.free hb)
  · have e : upd w.B D o a = some u := e
    by_cases q : a = D
    · subst q
      rw [upd_same] at e
      show w.H _ = _
      rw [h]
      exact e
    · rw [upd_ne q] at e
      exact hw.bh _ _ e
theorem lend_gs {w : Wd} (hw : Wf w) {D : Addr} {o : HO} (h : w.H D = some o) (hb : w.B D = none) : Gs w (lend w D o) :=
  ⟨lend_wf hw h hb, .refl _, same_up hb, fun _ q => .inl q, List.prefix_refl _, fun _ q => .inl q⟩
theorem lend_tb {Z : Zc} {T : Tb} {w : Wd} (t : TbOk Z T w) {D : Addr} {o : HO} (hm : D ∉ w.m) : TbOk Z T (lend w D o) :=
  ⟨t.len, t.nd, t.hh, fun n M e => by
    obtain ⟨a, h1, h2, h3⟩ := t.at_ n M e
    refine ⟨a, h1, ?_, MobOk.mono (w := w) (w' := lend w D o) (.refl _) (List.prefix_refl _) (fun _ q => q) h3⟩
    show upd w.B D o a = none
    rw [upd_ne (fun q => hm (by rw [← q]; exact List.mem_of_getElem? h1))]
    exact h2⟩
/-- D is given back, with other items -/
def back (w4 : Wd) (D : Addr) (o : HO) : Wd := ⟨w4.N, fun x => if x = D then none else w4.B x, upd w4.H D o, w4.m⟩
theorem lend_back {Z : Zc} {T : Tb} {w w4 : Wd} {D : Addr} {o o' : HO} (hw : Wf w) (h : w.H D = some o) (hb : w.B D = none) (hm : D ∉ w.m) (g : Gs (lend w D o) w4) (t : TbOk Z T w4) :
    w4.H D = some o ∧ D ∉ w4.m ∧ (back w4 D o').B D = none ∧ Gs w (back w4 D o') ∧ TbOk Z T (back w4 D o') := by
  have hbl : (lend w D o).B D = some o := upd_same
  have hb4 : w4.B D = some o := g.b _ _ hbl
  have hm4 : D ∉ w4.m := fun z => (g.mf D z).elim hm fun q => by rw [hbl] at q; cases q
  have hn4 : w4.N D = none := by
    cases q : w4.N D with
    | none => rfl
    | some u =>
      rcases g.fn D (by rw [q]; exact fun z => nomatch z) with z | z
      · exact (z (hw.nb.free hb)).elim
      · rw [hbl] at z; cases z
  have nb : Same w4.N (back w4 D o').B := fun a u e => by
    have : a ≠ D := fun q => by subst q; rw [hn4] at e; cases e
    show (if a = D then none else w4.B a) = _
    rw [if_neg this]
    exact g.wf.nb _ _ e
  have bh : Same (back w4 D o').B (back w4 D o').H := fun a u e => by
    have e : (if a = D then none else w4.B a) = some u := e
    by_cases q : a = D
    · rw [if_pos q] at e; cases e
    · rw [if_neg q] at e
      show upd w4.H D o' a = _
      rw [upd_ne q]
      exact g.wf.bh _ _ e
  refine ⟨g.wf.bh _ _ hb4, hm4, if_pos rfl, ⟨⟨nb, bh⟩, g.n, fun a u e => ?_, fun a q => ?_, g.m, fun a q => ?_⟩, ⟨t.len, t.nd, fun a ha => ?_, fun n M e => ?_⟩⟩
  · have : a ≠ D := fun q => by subst q; rw [hb] at e; cases e
    show (if a = D then none else w4.B a) = _
    rw [if_neg this]
    refine g.b _ _ ?_
    show upd w.B D o a = _
    rw [upd_ne this]
    exact e
  · refine (g.fn a q).imp id fun z => ?_
    have z : upd w.B D o a = none := z
    by_cases q : a = D
    · subst q; exact hb
    · rw [upd_ne q] at z; exact z
  · refine (g.mf a q).imp id fun z => ?_
    have z : upd w.B D o a = none := z
    by_cases q : a = D
    · subst q; exact hb
    · rw [upd_ne q] at z; exact z
  · show upd w4.H D o' a ≠ none
    rw [upd_ne (fun q => hm4 (by rw [← q]; exact ha))]
    exact t.hh a ha
  · obtain ⟨a, h1, h2, h3⟩ := t.at_ n M e
    have hne : a ≠ D := fun q => hm4 (by rw [← q]; exact List.mem_of_getElem? h1)
    refine ⟨a, h1, ?_, MobOk.mono (w := w4) (w' := back w4 D o') (.refl _) (List.prefix_refl _) (fun u q => ?_) h3⟩
    · show (if a = D then none else w4.B a) = none
      rw [if_neg hne]
      exact h2
    · show upd w4.H D o' a = _
      rw [upd_ne hne]
      exact q
/-- a list that is nobody's yet enters the table -/
theorem enter {Z : Zc} {s : List Sl} {T : Tb} {σ : L2.St} {w : Wd} (k : Wok Z ⟨s, T⟩ σ w) (no : noOwn s) {D : Addr} {acc : List V} {hacc : List HV} (hA : w.H D = some (.lst acc)) (hB : w.B D = none) (hm : D ∉ w.m) (hR : HvsOk Z w acc hacc) :
    Wok Z ⟨s, T ++ [some (.lst hacc)]⟩ σ ⟨w.N, w.B, w.H, w.m ++ [D]⟩ ∧ Gs w ⟨w.N, w.B, w.H, w.m ++ [D]⟩ := by
  have px : w.m <+: w.m ++ [D] := List.prefix_append _ _
  have wf : Wf ⟨w.N, w.B, w.H, w.m ++ [D]⟩ := ⟨k.wf.nb, k.wf.bh⟩
  have g : Gs w ⟨w.N, w.B, w.H, w.m ++ [D]⟩ := ⟨wf, .refl _, .refl _, fun _ q => .inl q, px, fun a q => (List.mem_append.mp q).imp id fun z => by rw [List.mem_singleton.mp z]; exact hB⟩
  refine ⟨wok_slots k no g ⟨by rw [List.length_append]; show T.length + 1 = (w.m ++ [D]).length; rw [List.length_append, k.tb.len]; rfl, ?_, fun a ha => ?_, fun n M e => ?_⟩, g⟩
  · show (w.m ++ [D]).Nodup
    rw [List.nodup_append]
    exact ⟨k.tb.nd, by simp, fun x hx y hy e => by rw [List.mem_singleton.mp hy] at e; subst e; exact hm hx⟩
  · rcases List.mem_append.mp ha with z | z
    · exact k.tb.hh a z
    · rw [List.mem_singleton.mp z]
      show w.H D ≠ none
      rw [hA]
      exact fun z => nomatch z
  · have hlen : T.length = w.m.length := k.tb.len
    by_cases hj : n < T.length
    · rw [List.getElem?_append_left hj] at e
      obtain ⟨a, h1, h2, h3⟩ := k.tb.at_ n M e
      exact ⟨a, by show (w.m ++ [D])[n]? = _; rw [List.getElem?_append_left (List.getElem?_eq_some_iff.mp h1).1]; exact h1, h2, MobOk.mono (w := w) (w' := ⟨w.N, w.B, w.H, w.m ++ [D]⟩) (.refl _) px (fun _ q => q) h3⟩
    · rw [List.getElem?_append_right (by omega)] at e
      have h0 : n - T.length = 0 := by
        have := (List.getElem?_eq_some_iff.mp e).1
        simp at this
        omega
      rw [h0] at e
      cases e
      exact ⟨D, by show (w.m ++ [D])[n]? = _; rw [List.getElem?_append_right (by omega), ← hlen, h0]; rfl, hB, acc, hA, HvsOk.mono (w := w) (w' := ⟨w.N, w.B, w.H, w.m ++ [D]⟩) (.refl _) px hR⟩
def valX {α : Type} : Option (XRes α) → Option (α × Tb)
  | some (.val x T) => some (x, T)
  | _ => none
theorem valX_some {α : Type} {o : Option (XRes α)} {x : α} {T : Tb} (h : valX o = some (x, T)) : o = some (.val x T) := by
  unfold valX at h
  split at h
  · cases h; rfl
  · cases h
noncomputable def lcX (ct : FXT) (fe : FX) (s : HV → Ev → Option Ev) (sl : List Sl) (x : HV) (M : Mob) : List HV → Tb → Option (List HV × Tb)
  | [], T => cif (srcM T x = some M) (some ([], T)) none
  | y :: ys, T => cif (srcM T x = some M) ((s y ⟨sl, T⟩).bind fun e => (valX (ct e)).bind fun k => if k.1 then (valX (fe ⟨e.s, k.2⟩)).bind fun v => (lcX ct fe s sl x M ys v.2).map fun r => (v.1 :: r.1, r.2) else lcX ct fe s sl x M ys k.2) none
noncomputable def lcXK (ct : FXT) (fe : FX) (s : HV → Ev → Option Ev) (sl : List Sl) (x : HV) (T : Tb) : Option (XRes HV) := (srcM T x).bind fun M => if (mobI M).length ≤ lim then (lcX ct fe s sl x M (mobI M) T).map fun r => .val (.ob r.2.length) (r.2 ++ [some (.lst r.1)]) else none
/-- [fe for s in f if ct]: a new object of the table -/
noncomputable def xLc (f : FX) (s : HV → Ev → Option Ev) (ct : FXT) (fe : FX) (vs : List Nat) : FX := fun env => if ownFree env.s then bX (f env) fun x T => lcXK ct fe s (wipeE ⟨env.s, T⟩ vs).s x T else none
theorem wipeE_t (env : Ev) : ∀ vs, (wipeE env vs).t = env.t
  | [] => rfl
  | v :: vs => wipeE_t env vs
theorem lcX_len {ct : FXT} {fe : FX} {s : HV → Ev → Option Ev} {sl : List Sl} {x : HV} {M : Mob} : ∀ {ys : List HV} {T : Tb} {r : List HV × Tb}, lcX ct fe s sl x M ys T = some r → r.1.length ≤ ys.length
  | [], T, r, h => by
    obtain ⟨_, h⟩ := cif_get h
    cases h
    exact Nat.le_refl _
  | y :: ys, T, r, h => by
    obtain ⟨_, h⟩ := cif_get h
    obtain ⟨e, h1, h⟩ := Option.bind_eq_some_iff.mp h
    obtain ⟨k, h2, h⟩ := Option.bind_eq_some_iff.mp h
    split at h
    · obtain ⟨v, h3, h⟩ := Option.bind_eq_some_iff.mp h
      obtain ⟨r', h4, rfl⟩ := Option.map_eq_some_iff.mp h
      exact Nat.succ_le_succ (lcX_len h4)
    · exact Nat.le_succ_of_le (lcX_len h)
theorem own_wipe {s : List Sl} {T : Tb} (h : noOwn s) : ∀ vs, noOwn (wipeE ⟨s, T⟩ vs).s
  | [] => h
  | v :: vs => fun ds z => by
    have ih := own_wipe (T := T) h vs
    have z : Sl.own ds ∈ ((wipeE ⟨s, T⟩ vs).s).set v .un := z
    rcases List.mem_or_eq_of_mem_set z with q | q
    · exact ih ds q
    · cases q
section
variable {X : Cx} {cl : Str → Option Addr} {W : WX} {a b c e o tg iter elt : Expr} {es ifs : List Expr} {f g h : FX} {pos : Pos} {is : List Nat} {s : HV → Ev → Option Ev} {ct : FXT} {scope : Scope}
theorem jxts_nil {X : Cx} : PTs X [] (tXT (zx X cl) W0 (fun env => some (.val true env.t))) := by
  refine ⟨fun pins s σ H Q I ⟨env, w, r, e, k, hr, q⟩ => pts_nil.run pins s σ H Q I ?_⟩
  subst e
  cases hr
  exact q w (Gs.refl k.wf) k
theorem tIH_bind {β : Type} {Z : Zc} {σ : L2.St} {w : Wd} {env : Ev} {q : XRes β} {k : HV → Tb → Option (XRes β)} {R : It → Hp → Prop} (kk : Wok Z env σ w) (h : bX (f env) k = some q) (l : Late Z W env.s σ w q)
    (hq : ∀ x T, k x T = some q → PiX Z env.s σ w R x T) : tIH Z W f σ w.H R := by
  obtain ⟨r, h1, h2⟩ := bX_fin (P := PiX Z env.s σ w R) h l hq
  exact ⟨env, w, r, rfl, kk, h1, h2⟩
theorem lcX_rd {vs : List Nat} (hsub : is.all (fun i => vs.contains i) = true) {σ : L2.St} {H : Hp} {Q : VK} (hh : tX (zx X cl) W (xLc f s ct g vs) σ H Q) :
    tLc (tIH (zx X cl) W f) (tGX (zx X cl) is s) (tXT (zx X cl) W0 ct) (tX (zx X cl) W0 g) vs σ H Q := by
  obtain ⟨env, w, r, e, k, hr, q⟩ := hh
  subst e
  unfold xLc at hr
  split at hr
  · rename_i hof
    show tIH (zx X cl) W f σ w.H _
    refine tIH_bind k hr q.late fun x T hk => ?_
    · obtain ⟨M, hM, h4⟩ := Option.bind_eq_some_iff.mp hk
      split at h4
      · rename_i hlen
        obtain ⟨⟨res, T9⟩, h5, h6⟩ := Option.map_eq_some_iff.mp h4
        subst h6
        refine ⟨M, hM, fun J w1 g1 k1 wk => ?_⟩
        intro D hD
        have kw : Wok (zx X cl) ⟨(wipeE ⟨env.s, T⟩ vs).s, T⟩ (wipe σ vs) w1 := by
          have := wok_wipe k1 vs
          have e : wipeE ⟨env.s, T⟩ vs = ⟨(wipeE ⟨env.s, T⟩ vs).s, T⟩ := by
            have := wipeE_t ⟨env.s, T⟩ vs
            cases q : wipeE ⟨env.s, T⟩ vs with
            | mk a b => rw [q] at this; cases this; rfl
          rw [e] at this
          exact this
        have no := own_wipe (T := T) (ownFree_no hof) vs
        generalize (wipeE ⟨env.s, T⟩ vs).s = sl at h5 kw no
        have hDm : D ∉ w1.m := fun z => k1.tb.hh D z hD
        have gp : Gr w1 (w1.put .T D (.lst [])) := Gr.put k1.wf hD
        have hlcl := lcX_len h5
        dsimp only at hlcl
        refine ⟨fun i m H' => ∃ w' T' acc hacc rem, w'.H = H' ∧ Gs w1 w' ∧ TbOk (zx X cl) T' w' ∧ w'.H D = some (.lst acc) ∧ w'.B D = none ∧ D ∉ w'.m ∧ HvsOk (zx X cl) w' acc hacc ∧ m = (mobI M).length - i ∧ i ≤ (mobI M).length ∧ lcX ct g s sl x M ((mobI M).drop i) T' = some rem ∧ hacc ++ rem.1 = res ∧ rem.2 = T9,
          ⟨(mobI M).length, w1.put .T D (.lst []), T, [], [], _, rfl, gp.gs k1.wf, k1.tb.mono gp, upd_same, k1.wf.bh.free hD, hDm, trivial, rfl, Nat.zero_le _, h5, rfl, rfl⟩, ?_⟩
        rintro i m H' ⟨w', T', acc, hacc, rem, rfl, gs, t', hA, hB, hm, hR, rfl, hi, hf, hys, hT⟩
        by_cases hlt : i < (mobI M).length
        · obtain ⟨y, hr⟩ : ∃ r, (mobI M)[i]? = some r := ⟨(mobI M)[i], List.getElem?_eq_getElem hlt⟩
          have hd : (mobI M).drop i = y :: (mobI M).drop (i + 1) := by
            rw [List.drop_eq_getElem_cons hlt]
            rw [List.getElem?_eq_getElem hlt] at hr
            rw [Option.some.inj hr]
          rw [hd] at hf
          obtain ⟨hsrc, hf⟩ := cif_get hf
          obtain ⟨e1, h7, h8⟩ := Option.bind_eq_some_iff.mp hf
          obtain ⟨⟨kk, T1⟩, h9, h10⟩ := Option.bind_eq_some_iff.mp h8
          obtain ⟨go, yl⟩ := (wk w' T' gs t' hsrc).2 i y hr
          refine .inr ⟨go, fun H2 => ∃ m', m' < (mobI M).length - i ∧ ∃ w' T' acc hacc rem, w'.H = H2 ∧ Gs w1 w' ∧ TbOk (zx X cl) T' w' ∧ w'.H D = some (.lst acc) ∧ w'.B D = none ∧ D ∉ w'.m ∧ HvsOk (zx X cl) w' acc hacc ∧ m' = (mobI M).length - (i + 1) ∧ i + 1 ≤ (mobI M).length ∧ lcX ct g s sl x M ((mobI M).drop (i + 1)) T' = some rem ∧ hacc ++ rem.1 = res ∧ rem.2 = T9,
            fun _ z => z, fun v H2 hy => ?_⟩
          obtain ⟨rfl, r2⟩ := yl v H2 hy
          have gl := lend_gs gs.wf hA hB
          have kL : Wok (zx X cl) ⟨sl, T'⟩ (wipe σ vs) (lend w' D (.lst acc)) := wok_slots kw no (gs.trans gl) (lend_tb t' hm)
          have hid : ∀ w4 : Wd, w4.H D = some (.lst acc) → (back w4 D (.lst acc)).H = w4.H := fun w4 h => by
            funext a
            show upd w4.H D (.lst acc) a = w4.H a
            by_cases q : a = D
            · subst q; rw [upd_same, h]
            · rw [upd_ne q]
          refine ⟨⟨sl, T'⟩, lend w' D (.lst acc), y, e1, rfl, kL, HvOk.mono (w := w') (w' := lend w' D (.lst acc)) (.refl _) (List.prefix_refl _) r2, h7, fun σ3 w3 g3 k3 f3 l3 => ⟨?_, e1, w3, .val kk T1, rfl, k3, valX_some h9, fun w4 g4 k4 => ?_⟩⟩
          · have hl : σ3.length = σ.length := l3.trans (wipe_length σ vs)
            exact wipe_eq hl hsub f3
          · have g34 : Gs (lend w' D (.lst acc)) w4 := (g3.gs kL.wf).trans g4
            dsimp only at h10
            cases kk with
            | false =>
              obtain ⟨b1, b2, b3, b4, b5⟩ := lend_back (o' := .lst acc) gs.wf hA hB hm g34 k4.tb
              exact ⟨_, by omega, back w4 D (.lst acc), T1, acc, hacc, rem, hid w4 b1, gs.trans b4, b5, upd_same, b3, b2, HvsOk.mono (w := w') (w' := back w4 D (.lst acc)) b4.n b4.m hR, rfl, hlt, h10, hys, hT⟩
            | true =>
              obtain ⟨⟨u, T2⟩, h11, h12⟩ := Option.bind_eq_some_iff.mp h10
              obtain ⟨rem', h13, rfl⟩ := Option.map_eq_some_iff.mp h12
              refine ⟨⟨e1.s, T1⟩, w4, .val u T2, rfl, k4, valX_some h11, fun v5 w5 g5 k5 hu => ?_⟩
              obtain ⟨b1, b2, b3, b4, b5⟩ := lend_back (o' := .lst (acc ++ [v5])) gs.wf hA hB hm (g34.trans g5) k5.tb
              refine ⟨acc, b1, ?_, _, by omega, back w5 D (.lst (acc ++ [v5])), T2, acc ++ [v5], hacc ++ [u], rem', rfl, gs.trans b4, b5, upd_same, b3, b2, ?_, rfl, hlt, h13, by rw [List.append_assoc]; exact hys, hT⟩
              · have l1 := hR.length
                have l2 : hacc.length ≤ res.length := by rw [← hys]; simp
                exact lim_lt (by omega)
              · exact (HvsOk.mono (w := w') (w' := back w5 D (.lst (acc ++ [v5]))) b4.n b4.m hR).app ⟨HvOk.mono (w := w5) (w' := back w5 D (.lst (acc ++ [v5]))) (.refl _) (List.prefix_refl _) hu, trivial⟩
        · have e : i = (mobI M).length := by omega
          subst e
          rw [List.drop_length] at hf
          obtain ⟨hsrc, hf⟩ := cif_get hf
          cases hf
          rw [List.append_nil] at hys
          subst hys
          have hT : T' = T9 := hT
          subst hT
          refine .inl ⟨(wk w' T' gs t' hsrc).1, ?_⟩
          have kf : Wok (zx X cl) ⟨env.s, T'⟩ σ w' := wok_slots k1 (ownFree_no hof) gs t'
          -- the list at D becomes an object of the table
          obtain ⟨k8, g8⟩ : Wok (zx X cl) ⟨env.s, T' ++ [some (.lst hacc)]⟩ σ ⟨w'.N, w'.B, w'.H, w'.m ++ [D]⟩ ∧ Gs w' ⟨w'.N, w'.B, w'.H, w'.m ++ [D]⟩ := enter kf (ownFree_no hof) hA hB hm hR
          refine q (.ref D) ⟨w'.N, w'.B, w'.H, w'.m ++ [D]⟩ ((g1.trans gs).trans g8) k8 ⟨D, rfl, ?_⟩
          have hlen : T'.length = w'.m.length := t'.len
          show (w'.m ++ [D])[T'.length]? = _
          rw [hlen, List.getElem?_append_right (Nat.le_refl _)]
          simp
      · cases h4
  · cases hr
theorem jx_lc (own : List (Str × Nat)) (hX : XS X) (hi : PE X iter (tX (zx X cl) W f)) (ok : blkC X.N X.env.scope scope own = true)
    (hg : ∀ (s' : Shared) (H : Hp) (C : Addr) (l : List (Str × Addr)) (fp : List Addr), PG (X.blk s' H scope (compEnvC scope l C X.env) fp) tg (tGX (zx X cl) is s))
    (ht : ∀ (s' : Shared) (H : Hp) (C : Addr) (l : List (Str × Addr)) (fp : List Addr), PTs (X.blk s' H scope (compEnvC scope l C X.env) fp) ifs (tXT (zx X cl) W0 ct))
    (he : ∀ (s' : Shared) (H : Hp) (C : Addr) (l : List (Str × Addr)) (fp : List Addr), PE (X.blk s' H scope (compEnvC scope l C X.env) fp) elt (tX (zx X cl) W0 g))
    (hsub : is.all (fun i => (own.map (·.2)).contains i) = true := by rfl) (hs : ∀ x, foldedSetIterable iter X.env x = pure x := by intro _; rfl) :
    PE X (.ListComp elt [⟨tg, iter, ifs, 0⟩] scope pos) (tX (zx X cl) W (xLc f s ct g (own.map (·.2)))) :=
  pe_w (pe_lc hX.calm hX.nd (jih_it hi) (blkOk_by ok) hg ht he hs) fun _ _ _ hh => lcX_rd hsub hh
theorem jz_setLc (i : Nat) (own : List (Str × Nat)) {y : Str} {py spos : Pos} (hX : XS X) (hi : PE X iter (tX (zx X cl) W f)) (ok : blkC X.N X.env.scope scope own = true)
    (hg : ∀ (s' : Shared) (H : Hp) (C : Addr) (l : List (Str × Addr)) (fp : List Addr), PG (X.blk s' H scope (compEnvC scope l C X.env) fp) tg (tGX (zx X cl) is s))
    (ht : ∀ (s' : Shared) (H : Hp) (C : Addr) (l : List (Str × Addr)) (fp : List Addr), PTs (X.blk s' H scope (compEnvC scope l C X.env) fp) ifs (tXT (zx X cl) W0 ct))
    (he : ∀ (s' : Shared) (H : Hp) (C : Addr) (l : List (Str × Addr)) (fp : List Addr), PE (X.blk s' H scope (compEnvC scope l C X.env) fp) elt (tX (zx X cl) W0 g))
    (hy : X.N[i]? = some y := by rfl) (hyl : X.env.scope.names.lookup y = some .local := by rfl)
    (hsw : swapsWith (.ListComp elt [⟨tg, iter, ifs, 0⟩] scope pos) (some (.Name y py)) spos.line X.env = pure true := by exact sw_true rfl rfl rfl (by decide +kernel))
    (hsub : is.all (fun i => (own.map (·.2)).contains i) = true := by rfl) (hs : ∀ x, foldedSetIterable iter X.env x = pure x := by intro _; rfl) :
    PS X (.Assign [.Name y py] (.ListComp elt [⟨tg, iter, ifs, 0⟩] scope pos) spos) (tSX (zx X cl) W (zSet i (xLc f s ct g (own.map (·.2))))) := by
  refine ps_w (ps_setLc hX.calm hX.nd hy hyl hsw (jih_it hi) (blkOk_by ok) hg ht he hs) fun D σ H ⟨env, w, out, e, k, hr, q⟩ => ?_
  subst e
  refine lcX_rd (cl := cl) (W := W) hsub (Q := fun v H1 => D.nx (σ.set i (some v)) H1) ?_
  refine tX_then k hr q fun x T v w1 h1 g1 k1 hx => ?_
  obtain ⟨e', h2, rfl⟩ := Option.map_eq_some_iff.mp h1
  exact q _ w1 g1 (setHS_ok k1 h2 hx)
end
end Vf
namespace Vf
open PySem L2
/-! ### isinstance, list(..), tuple(..), len, keywords -/
def isi2D (d : D) (T1 T2 : String) : Option Bool := (isiD d T1).bind fun a => (isiD d T2).map fun b => a || b
def sIsi2 (T1 T2 : String) (f : FE) : FE := fun env => (f env).bind fun x => (isi2D x.2 T1 T2).map fun k => (.N, .bl k)
def isiX (T : String) (x : HV) (Tb0 : Tb) : Option (XRes HV) := (tdX Tb0 x).bind fun r => (isiD r.2 T).map fun k => .val (.pu (.bl k)) Tb0
def xIsi (T : String) (f : FX) : FX := fun env => bX (f env) (isiX T)
theorem isiD_kit {K : PySem.W.Frag} {d : D} {T : String} {b : Bool} (h : isiD d T = some b) : (∀ c fs ds, d ≠ .ins c fs ds) ∧ PySem.W.kitOne K (.type (tyOf d)) (.type T) = some b := by
  unfold isiD at h
  split at h
  · cases h
  · rename_i hne
    exact ⟨fun c fs ds e => hne _ _ _ e, kit_ty h⟩
def listK (x : HV) (T : Tb) : Option (XRes HV) := (srcM T x).map fun M => .val (.ob T.length) (T ++ [some (.lst (mobI M))])
/-- list(e): a new object -/
def xList (f : FX) : FX := fun env => bX (f env) listK
def tupOfK (x : HV) (T : Tb) : Option (XRes HV) := (srcM T x).bind fun M => match M with
  | .lst xs => (match pures xs with
    | some ds => some (.val (.pu (.tup ds)) T)
    | none => some (.val (.ob T.length) (T ++ [some (.tup xs)])))
  | .tup xs => some (.val x T)
  | _ => none
def xTupOf (f : FX) : FX := fun env => bX (f env) tupOfK
def lenK (x : HV) (T : Tb) : Option (XRes HV) := match x with
  | .pu d => (lenB [(.N, d)]).bind fun r => resX r T
  | .ob k => match T[k]? with
    | some (some (.dic ks _)) => some (.val (.pu (.int ks.length)) T)
    | _ => (srcM T (.ob k)).map fun M => .val (.pu (.int (mobI M).length)) T
def xLen (f : FX) : FX := fun env => bX (f env) lenK
section
variable {X : Cx} {cl : Str → Option Addr} {W : WX} {a b c e o : Expr} {es : List Expr} {f g h : FX} {fa : FXA} {pos apos : Pos} {kws : List Keyword} {gg : List HV → Tb → Option (XRes HV)} {ps ks : List Str} {k j : Nat} {π : List Nat}
theorem je_isi2 {f : FE} {T1 T2 : String} {t1 t2 : Str} {p q1 q2 qt : Pos} {x1 : Nat} (ha : PE X a (tE (zx X cl) f)) (mi : X.mg "isinstance" = none) (m1 : X.mg t1 = none) (m2 : X.mg t2 = none) (hT1 : bootBuiltins t1 = some (.type T1)) (hT2 : bootBuiltins t2 = some (.type T2)) (hgi : Gl X "isinstance" := by rfl) (hg1 : Gl X t1 := by rfl) (hg2 : Gl X t2 := by rfl)
    (hn1 : t1 ≠ "__name__" := by decide) (hd1 : (t1 == ("__debug__" : Str)) = false := by decide) (hn2 : t2 ≠ "__name__" := by decide) (hd2 : (t2 == ("__debug__" : Str)) = false := by decide)
    (he : starEach [a, .Tuple [.Name t1 q1, .Name t2 q2] x1 qt] X.env = (false, eval a X.env) :: starEach [.Tuple [.Name t1 q1, .Name t2 q2] x1 qt] X.env := by rfl)
    (hpl : (backTo pos (starEach [.Tuple [.Name t1 q1, .Name t2 q2] x1 qt] X.env)).any (·.1) = false := by rfl) (he2 : starEach [.Tuple [.Name t1 q1, .Name t2 q2] x1 qt] X.env = (false, eval (.Tuple [.Name t1 q1, .Name t2 q2] x1 qt) X.env) :: starEach [] X.env := by rfl)
    (he3 : starEach [.Name t1 q1, .Name t2 q2] X.env = (false, eval (.Name t1 q1) X.env) :: starEach [.Name t2 q2] X.env := by rfl) (he4 : starEach [.Name t2 q2] X.env = (false, eval (.Name t2 q2) X.env) :: starEach [] X.env := by rfl) :
    PE X (.Call (.Name "isinstance" p) [a, .Tuple [.Name t1 q1, .Name t2 q2] x1 qt] [] pos) (tE (zx X cl) (sIsi2 T1 T2 f)) := by
  refine pe_w (pe_callB call_isiT hgi mi PyProof.Rows.boot_isinstance (pa_cons ha (pa_cons (pe_tup (pa_cons (pe_bltn (v := .ty T1) hg1 m1 hT1 rfl hn1 hd1) (pa_cons (pe_bltn (v := .ty T2) hg2 m2 hT2 rfl hn2 hd2) pa_nil he4) he3)) pa_nil he2) he) (by decide) (by decide) he hpl) fun σ H Q ⟨env, w, r, e, k, hr, q⟩ => ?_
  subst e
  obtain ⟨⟨t, d⟩, h1, h2⟩ := Option.bind_eq_some_iff.mp hr
  obtain ⟨b, h3, rfl⟩ := Option.map_eq_some_iff.mp h2
  obtain ⟨b1, h4, h5⟩ := Option.bind_eq_some_iff.mp h3
  obtain ⟨b2, h6, rfl⟩ := Option.map_eq_some_iff.mp h5
  dsimp only at h4 h6
  refine ⟨env, w, _, rfl, k, h1, fun v w1 g1 r1 => ⟨by show 2 ≤ sizeLine; decide, fun p hp => ?_⟩⟩
  obtain ⟨hd, k1⟩ := isiD_kit (K := X.K) h4
  obtain ⟨_, k2⟩ := isiD_kit (K := X.K) h6
  have gp := Gr.put g1.wf (t := .T) (o := .tup [.ty T1, .ty T2]) hp
  refine ⟨v, p, [.ty T1, .ty T2], .type (tyOf d), [.type T1, .type T2], b1 || b2, rfl, upd_same, .cons (.ty T1) (.cons (.ty T2) .nil), ?_, ?_, ?_⟩
  · exact tyX_of (Rp.mono gp.h (r1.top g1.wf)) hd
  · refine kitAny_cons k1 (fun e => ?_) (fun e => by rw [e]; rfl)
    subst e
    exact kitAny_cons k2 (fun e => by subst e; rfl) (fun e => by rw [e]; rfl)
  · have := q (.bl (b1 || b2)) (w1.put .T p (.tup [.ty T1, .ty T2])) (g1.trans gp) (nN (.bl _) rfl)
    rw [put_H] at this
    exact this
theorem jx_list {p : Pos} (hm : X.mg "list" = none) (ha : PE X a (tX (zx X cl) W f)) (hv : bootBuiltins "list" = some (.type "list")) (hg : Gl X "list" := by rfl) (he : starEach [a] X.env = (false, eval a X.env) :: starEach [] X.env := by rfl) (hpl : (backTo pos (starEach [] X.env)).any (·.1) = false := by rfl) :
    PE X (.Call (.Name "list" p) [a] [] pos) (tX (zx X cl) W (xList f)) := by
  refine pe_w (pe_callTy call_list_of hg hm hv (pa_cons ha pa_nil he) (by decide) (by decide) he hpl) fun σ H Q ⟨env, w, r, e, k, h, q⟩ => ?_
  subst e
  refine tX_bind k h q.late fun x T1 v w1 h1 g1 k1 hx => ?_
  obtain ⟨M, hM, rfl⟩ := Option.map_eq_some_iff.mp h1
  rcases srcM_kind hM with ⟨xs, rfl⟩ | ⟨xs, rfl⟩
  · obtain ⟨pa, vs, rfl, h2, h3⟩ := src_lst k1.wf k1.tb hx hM
    refine ⟨pa, vs, rfl, .inl h2, fun np hnp => ?_⟩
    obtain ⟨w2, e2, g2, k2, hx2⟩ := new_ok k1 (o := .lst vs) (M := .lst xs) hnp ⟨vs, upd_same, HvsOk.mono (w := w1) (w' := ⟨w1.N, w1.B, upd w1.H np (.lst vs), w1.m⟩) (.refl _) (List.prefix_refl _) h3⟩
    rw [← e2]
    exact q _ w2 (g1.trans g2) k2 hx2
  · obtain ⟨pa, vs, rfl, h2, h3⟩ := src_tup k1.wf k1.tb hx hM
    refine ⟨pa, vs, rfl, .inr h2, fun np hnp => ?_⟩
    obtain ⟨w2, e2, g2, k2, hx2⟩ := new_ok k1 (o := .lst vs) (M := .lst xs) hnp ⟨vs, upd_same, HvsOk.mono (w := w1) (w' := ⟨w1.N, w1.B, upd w1.H np (.lst vs), w1.m⟩) (.refl _) (List.prefix_refl _) h3⟩
    rw [← e2]
    exact q _ w2 (g1.trans g2) k2 hx2
theorem jx_tupOf {p : Pos} (hm : X.mg "tuple" = none) (ha : PE X a (tX (zx X cl) W f)) (hv : bootBuiltins "tuple" = some (.type "tuple")) (hg : Gl X "tuple" := by rfl) (he : starEach [a] X.env = (false, eval a X.env) :: starEach [] X.env := by rfl) (hpl : (backTo pos (starEach [] X.env)).any (·.1) = false := by rfl) :
    PE X (.Call (.Name "tuple" p) [a] [] pos) (tX (zx X cl) W (xTupOf f)) := by
  refine pe_w (pe_callTy call_tuple_of hg hm hv (pa_cons ha pa_nil he) (by decide) (by decide) he hpl) fun σ H Q ⟨env, w, r, e, k, h, q⟩ => ?_
  subst e
  refine tX_bind k h q.late fun x T1 v w1 h1 g1 k1 hx => ?_
  obtain ⟨M, hM, h1⟩ := Option.bind_eq_some_iff.mp h1
  rcases srcM_kind hM with ⟨xs, rfl⟩ | ⟨xs, rfl⟩
  · obtain ⟨pa, vs, rfl, h2, h3⟩ := src_lst k1.wf k1.tb hx hM
    refine ⟨pa, vs, rfl, .inl ⟨h2, fun np hnp => ?_⟩⟩
    dsimp only at h1
    split at h1
    · rename_i ds hd
      cases h1
      have := q (.ref np) (w1.put .N np (.tup vs)) (g1.trans ((Gr.put k1.wf hnp).gs k1.wf)) (k1.mono (Gr.put k1.wf hnp)) (new_tup (t := .N) k1.wf (by decide) hnp (pures_rp h3 hd))
      rw [put_H] at this
      exact this
    · cases h1
      obtain ⟨w2, e2, g2, k2, hx2⟩ := new_ok k1 (o := .tup vs) (M := .tup xs) hnp ⟨vs, upd_same, HvsOk.mono (w := w1) (w' := ⟨w1.N, w1.B, upd w1.H np (.tup vs), w1.m⟩) (.refl _) (List.prefix_refl _) h3⟩
      rw [← e2]
      exact q _ w2 (g1.trans g2) k2 hx2
  · obtain ⟨pa, vs, rfl, h2, h3⟩ := src_tup k1.wf k1.tb hx hM
    cases h1
    exact ⟨pa, vs, rfl, .inr ⟨h2, q _ w1 g1 k1 hx⟩⟩
def rLenX (Z : Zc) : List V → Hp → VK → Prop := fun xs H Q => rC Z lenB xs H Q ∨ (∃ a kvs, xs = [V.ref a] ∧ H a = some (.dK kvs) ∧ Q (.int kvs.length) H) ∨ ∃ p vs, xs = [.ref p] ∧ (SqL Z.K H p vs ∨ SqT Z.K H p vs) ∧ Q (.int vs.length) H
theorem cr_lenX : CallR X (.builtin "len") (rLenX (zx X cl)) := by
  rintro pins s σ H xs us Q I r (h | h | ⟨p, vs, rfl, h, q⟩)
  · exact cr_len (cl := cl) pins s σ H xs us Q I r h
  · exact call_lenD pins s σ H xs us Q I r h
  · rcases h with h | h
    · exact call_len pins s σ H _ us Q I r ⟨_, _, rfl, .inl ⟨vs, h, rfl⟩, q⟩
    · exact call_len pins s σ H _ us Q I r ⟨_, _, rfl, .inr ⟨vs, h, rfl⟩, q⟩
theorem jx_len {p : Pos} (hm : X.mg "len" = none) (ha : PE X a (tX (zx X cl) W f)) (hg : Gl X "len" := by rfl) (he : starEach [a] X.env = (false, eval a X.env) :: starEach [] X.env := by rfl) (hpl : (backTo pos (starEach [] X.env)).any (·.1) = false := by rfl) :
    PE X (.Call (.Name "len" p) [a] [] pos) (tX (zx X cl) W (xLen f)) := by
  refine pe_w (pe_callB (cr_lenX (cl := cl)) hg hm PySem.boot_len (pa_cons ha pa_nil he) (by decide) (by decide) he hpl) fun σ H Q ⟨env, w, r, e, k, h, q⟩ => ?_
  subst e
  refine tX_bind k h q.late fun x T1 v w1 h1 g1 k1 hx => ?_
  show rLenX (zx X cl) [v] w1.H Q
  cases x with
  | pu d =>
    obtain ⟨z, h2, h3⟩ := Option.bind_eq_some_iff.mp h1
    exact .inl ⟨w1, [(.N, d)], z, rfl, k1.wf, ⟨hx, trivial⟩, h2, fun v' w2 g2 rv => resX_ok h3 q g1 k1 g2 rv⟩
  | ob n =>
    unfold lenK at h1
    dsimp only at h1
    split at h1
    · rename_i ks xs ej
      cases h1
      obtain ⟨p, rfl, h2⟩ := hx
      obtain ⟨p', h4, h5, vs, h6, h7, h8⟩ := k1.tb.at_ _ _ ej
      rw [h2] at h4
      cases h4
      exact .inr (.inl ⟨p, _, rfl, h6, by rw [List.length_zip, h7, Nat.min_self]; exact q _ w1 g1 k1 (.int _)⟩)
    obtain ⟨M, hM, rfl⟩ := Option.map_eq_some_iff.mp h1
    rcases srcM_kind hM with ⟨xs, rfl⟩ | ⟨xs, rfl⟩
    · obtain ⟨pa, vs, rfl, h2, h3⟩ := src_lst k1.wf k1.tb hx hM
      refine .inr (.inr ⟨pa, vs, rfl, .inl h2, ?_⟩)
      rw [h3.length]
      exact q _ w1 g1 k1 (.int _)
    · obtain ⟨pa, vs, rfl, h2, h3⟩ := src_tup k1.wf k1.tb hx hM
      refine .inr (.inr ⟨pa, vs, rfl, .inr h2, ?_⟩)
      rw [h3.length]
      exact q _ w1 g1 k1 (.int _)
/-! keywords -/
def permV (π : List Nat) (ws : List Value) : List Value := π.map fun i => ws.getD i .none
def permW (π : List Nat) (zs : List V) : List V := π.map fun i => zs.getD i .non
def permH (π : List Nat) (xs : List HV) : List HV := π.map fun i => xs.getD i (.pu .non)
structure KwOk (fd : FuncData) (ps ks : List Str) (n : Nat) (π : List Nat) : Prop where
  to : ∀ (s : Shared) (us ws : List Value), us.length = n → ws.length = ks.length → BindsTo s fd ⟨us, ks.zip ws⟩ (ps.zip (us ++ permV π ws))
theorem vals_getD : ∀ {zs : List V} {ws : List Value} (i : Nat), Vals zs ws → RelV (zs.getD i .non) (ws.getD i .none)
  | _, _, _, .nil => rfl
  | _, _, 0, .cons h _ => h
  | _, _, i + 1, .cons _ r => by simpa using vals_getD i r
theorem vals_perm {zs : List V} {ws : List Value} (h : Vals zs ws) : ∀ π : List Nat, Vals (permW π zs) (permV π ws)
  | [] => .nil
  | i :: π => .cons (vals_getD i h) (vals_perm h π)
theorem hvs_getD {Z : Zc} {w : Wd} : ∀ {vs : List V} {xs : List HV} (i : Nat), HvsOk Z w vs xs → HvOk Z w (vs.getD i .non) (xs.getD i (.pu .non))
  | [], [], _, _ => .non
  | v :: vs, x :: xs, 0, ⟨h, _⟩ => h
  | v :: vs, x :: xs, i + 1, ⟨_, r⟩ => by simpa using hvs_getD i r
  | [], _ :: _, _, h => h.elim
  | _ :: _, [], _, h => h.elim
theorem hvs_perm {Z : Zc} {w : Wd} {vs : List V} {xs : List HV} (h : HvsOk Z w vs xs) : ∀ π : List Nat, HvsOk Z w (permW π vs) (permH π xs)
  | [] => trivial
  | i :: π => ⟨hvs_getD i h, hvs_perm h π⟩
theorem jxk_nil : PK X [] (tXA (zx X cl) W xNil) := ⟨fun pos pins s σ H Q I ⟨env, w, r, e, k, hr, q⟩ => pk_nil.run pos pins s σ H Q I (by
  subst e
  cases hr
  exact q [] w (Gs.refl k.wf) k trivial)⟩
theorem jxk_cons {nm : Option Str} {kpos : Pos} (ha : PE X e (tX (zx X cl) W f)) (hr : PK X kws (tXA (zx X cl) W fa)) : PK X (⟨nm, e, kpos⟩ :: kws) (tXA (zx X cl) W (xCons f fa)) := by
  refine ⟨fun pos pins s σ H Q I ⟨env, w, r, e, k, h, q⟩ => (pk_cons ha hr).run pos pins s σ H Q I ?_⟩
  subst e
  show tX (zx X cl) W f σ w.H _
  refine tX_bind k h q.late fun x T1 v w1 h1 g1 k1 hx => ?_
  refine tXA_bind k1 h1 (q.late.mono g1) fun xs T2 vs w2 h2 g2 k2 hxs => ?_
  cases h2
  exact q _ w2 (g1.trans g2) k2 ⟨hx.mono g2.n g2.m, hxs⟩
structure MaXK (P : Program) (w : World) (K : PySem.W.Frag) (mg : Str → Option Value) (base : Heap) (cl : Str → Option Addr) (k : Nat) (c : Str) (ps ks : List Str) (π : List Nat) (g : List HV → Tb → Option (XRes HV)) : Prop where
  ex : ∃ C f fd, Mk K C f ∧ FnOk P w K mg base (L2.CX P w) k f fd ps (spX ⟨K, cl⟩ g) ∧ mg c = some (.ref C) ∧ cl c = some C ∧ KwOk fd ps ks 1 π
def xMakeK (c : Str) (gi : List HV → Tb → Option (XRes HV)) (ks : List Str) (π : List Nat) (fa : FXA) : FX := fun env => bX (fa env) fun xs T => if xs.length = ks.length then mkX c gi (permH π xs) T else none
def xMethK (c m : Str) (gg : List HV → Tb → Option (XRes HV)) (ks : List Str) (π : List Nat) (o : FX) (fa : FXA) : FX := fun env => bX (o env) fun x T1 => (insOf T1 x).bind fun q => if q.1 = c ∧ m ∉ q.2 then bX (fa ⟨env.s, T1⟩) fun xs T2 => if xs.length = ks.length then gg (x :: permH π xs) T2 else none else none
end
section
open PySem.Spec PyProof.Rows
variable {X : Cx} {cl : Str → Option Addr} {W : WX} {a b c e o : Expr} {es : List Expr} {f g h : FX} {fa : FXA} {pos apos : Pos} {kws : List Keyword} {gg : List HV → Tb → Option (XRes HV)} {ps ks : List Str} {k j : Nat} {π : List Nat}
/-- C(k = ..) -/
theorem jx_makeK {c : Str} {p : Pos} (M : MaXK X.prog X.w X.K X.mg X.base cl k c ps ks π gg) (tk : Takes X W) (hr : Room j X.A) (hkw : PK X kws (tXA (zx X cl) W fa)) (hks : (backToKw pos (keywordEach kws X.env)).filterMap (·.1) = ks := by rfl) (hkj : k + 1 ≤ j := by decide) (hg : Gl X c := by rfl)
    (hdb : (c == ("__debug__" : Str)) = false := by decide) (hall : (backToKw pos (keywordEach kws X.env)).all (·.1.isSome) = true := by rfl)
    (hpl : ((backTo pos (starEach [] X.env)).any (·.1) || (backToKw pos (keywordEach kws X.env)).any (·.1.isNone)) = false := by rfl) : PE X (.Call (.Name c p) [] kws pos) (tX (zx X cl) W (xMakeK c gg ks π fa)) := by
  obtain ⟨C, fI, fd, mk, F, hm, hcl, hb⟩ := M.ex
  refine ⟨fun pins s σ H Q I hh => ?_⟩
  refine wpAny_Call_Name_kw (ld_glob I hg hm ?_ hdb)
  refine PySem.W.callWith_KW0 (h₀ := X.base) I.ok.mod.kin mk.kp hall ?_ hpl
  obtain ⟨env, w, r, e, kk, h, q⟩ := hh
  subst e
  have hh : tXA (zx X cl) W fa σ w.H fun zs H2 => zs.length = ks.length ∧ ∀ x dx, H2 x = none → H2 dx = none → dx ≠ x → spX (zx X cl) gg (.ref x :: permW π zs) (upd (upd H2 dx (.own x)) x (.ins C dx [])) (fun v H3 => v = .non ∧ Q (.ref x) H3) (WE W σ) := by
    refine tXA_bind kk h q.late fun xs T1 vs w1 h1 g1 k1 hxs => ?_
    split at h1
    · rename_i hl
      exact ⟨by rw [hxs.length]; exact hl, fun px dx hpx hdx hne => mk_end (Z := zx X cl) hcl h1 q g1 k1 (hvs_perm hxs π) px dx hpx hdx hne⟩
    · cases h1
  refine thn (hkw.run pos pins s σ w.H _ I hh) fun ws s2 ⟨zs, H2, I2, rz, l1, q2⟩ => ⟨I2.kIn, ?_⟩
  rw [hks]
  have hq := q2 (s2.heap.objs.size + 1) s2.heap.objs.size (I2.hok.fresh (Nat.le_succ _)) (I2.hok.fresh (Nat.le_refl _)) (Nat.ne_of_lt (Nat.lt_succ_self _))
  have I3 := Inv.made (C := C) I2
  have r2 : Vals (V.ref (s2.heap.objs.size + 1) :: permW π zs) (Value.ref (s2.heap.objs.size + 1) :: permV π ws) := .cons rfl (vals_perm rz π)
  have b := fun s => hb.to s [Value.ref (s2.heap.objs.size + 1)] ws rfl (by rw [← rz.length]; exact l1)
  refine wpAny_call (make_map (f := fI) I2.kIn mk.makes mk.init (beq_iff_eq.mp mk.fn) (codeAny_mono (F.run _ X.stack _ _ ⟨Value.ref (s2.heap.objs.size + 1) :: [], ks.zip ws⟩ (Value.ref (s2.heap.objs.size + 1) :: permV π ws) _ _ (WE W σ) ((hr.mono hkj).make C [] (ks.zip ws))
    (I3.env0.make C [] (ks.zip ws)) (b _) r2 hq) fun r s' hq' => ?_))
  cases r with
  | error e => exact passAt tk σ pins _ _ e s' I3 hq'
  | ok fl =>
    cases fl with
    | ret u =>
      obtain ⟨v, H', I4, rv, ev, q3⟩ := I3.after hq'
      subst ev
      exact ⟨rv, ⟨V.ref (s2.heap.objs.size + 1), H', I4, rfl, q3⟩⟩
    | next => exact False.elim hq'
    | brk => exact False.elim hq'
    | cont => exact False.elim hq'
end
end Vf
namespace Vf
open PySem L2
/-! ### defs by their own worth; the law's end -/
def gFX (np n : Nat) (F : SX) (xs : List HV) (T : Tb) : Option (XRes HV) := if xs.length = np then (F (env0H n xs T)).bind finX else none
theorem gFX_at {np n : Nat} {F : SX} {xs : List HV} {T : Tb} (h : xs.length = np) : gFX np n F xs T = (F (env0H n xs T)).bind finX := if_pos h
theorem gFX_len {np n : Nat} {F : SX} (xs : List HV) (T : Tb) (r : XRes HV) (h : gFX np n F xs T = some r) : xs.length = np := by
  unfold gFX at h
  split at h
  · assumption
  · cases h
theorem gFX_sem {np n : Nat} {F : SX} (xs : List HV) (T : Tb) (r : XRes HV) (h : gFX np n F xs T = some r) : (F (env0H n xs T)).bind finX = some r := by
  unfold gFX at h
  split at h
  · exact h
  · cases h
section
variable {P : Program} {w : World} {K : PySem.W.Frag} {mg : Str → Option Value} {base : Heap} {cl : Str → Option Addr}
/-- what is asked of the law -/
def spL (K : PySem.W.Frag) : Sp := fun vs H Q _ => ∃ a ns, vs = [.ref a] ∧ SqL K H a (ns.map V.int) ∧ LawOk ns ∧ ∀ H', Q (.bl true) H'
theorem spL_start {K : PySem.W.Frag} {H : Hp} {a : Addr} {ns : List Int} (hl : LawOk ns) (hS : SqL K H a (ns.map V.int)) : spL K [.ref a] H (fun v _ => v = .bl true) fun _ _ _ => False := ⟨a, ns, rfl, hS, hl, fun _ => rfl⟩
def scrX (ns : List Int) : HV := .pu (.scr (ns.map D.int))
theorem fn_law {f : Addr} {fd : FuncData} {k : Nat} {g : List HV → Tb → Option (XRes HV)} (F : FnOk P w K mg base (L2.CX P w) k f fd ["script"] (spX ⟨K, cl⟩ g)) (h : ∀ ns, LawOk ns → Ok (g [scrX ns] []) fun r => ∃ T, r = .val (.pu (.bl true)) T) : FnOk P w K mg base (L2.CX P w) k f fd ["script"] (spL K) := by
  have imp : ∀ vs H Q E, spL K vs H Q E → spX ⟨K, cl⟩ g vs H Q E := by
    rintro vs H Q E ⟨a, ns, rfl, hS, hl, q⟩
    obtain ⟨r, hr, T, rfl⟩ := h ns hl
    refine ⟨⟨H, H, H, []⟩, [scrX ns], [], _, rfl, ⟨.refl _, .refl _⟩, ⟨rfl, List.nodup_nil, fun a h => (by cases h), fun n M h => (by simp at h)⟩, ⟨?_, trivial⟩, hr, fun x T' e v w' g' hv tb => ?_, fun c ns ys T' e => nomatch e⟩
    · show Rp ⟨K, cl⟩ H (.ref a) (.scr (ns.map D.int))
      refine .scr hS ?_
      clear hS hl q hr
      induction ns with
      | nil => exact .nil
      | cons n ns ih => exact .cons (.int n) ih
    · cases e
      rw [show v = V.bl true from rp_val (d := .bl true) rfl hv]
      exact q _
  exact { F with
    len := fun vs H Q E hh => F.len vs H Q E (imp _ _ _ _ hh)
    run := fun A outer s H args us vs Q E h1 h2 h3 h4 h5 => F.run A outer s H args us vs Q E h1 h2 h3 h4 (imp _ _ _ _ h5) }
theorem cx_false {P : Program} {w : World} (H : Hp) (s : Shared) (e : Value) (s' : Shared) (h : L2.CX P w [] H s (fun _ _ _ => False) e s') : False := by
  obtain ⟨_, _, _, _, _, _, _, _, _, _, _, _, z⟩ := h
  exact z
end
end Vf
namespace Vf
open PySem L2
def xP (ct : FT) : FXT := fun env => (ct env).map fun b => .val b env.t
theorem jxt_p {X : Cx} {cl : Str → Option Addr} {W : WX} {a : Expr} {ct : FT} (h : PT X a (tT (zx X cl) ct)) : PT X a (tXT (zx X cl) W (xP ct)) := by
  refine pt_w h fun σ H Q ⟨env, w, r, e, k, hr, q⟩ => ?_
  subst e
  obtain ⟨b, h1, rfl⟩ := Option.map_eq_some_iff.mp hr
  exact ⟨env, w, b, rfl, k, h1, fun w1 g1 => q w1 (g1.gs k.wf) (k.mono g1)⟩
abbrev xYes : FXT := fun env => some (.val true env.t)
section
variable {P : Program} {w : World} {K : PySem.W.Frag} {mg : Str → Option Value} {base : Heap} {cl : Str → Option Addr}
theorem kw_of {x qual : Str} {st : Stmt} {f : Addr} {fd : FuncData} {ps ks : List Str} {n : Nat} {π : List Nat} (F : Fun K x qual st f fd)
    (h : ∀ (kV doc pm : Value) (an : Option Addr) (cdv ct : Value) (us ws : List Value), us.length = n → ws.length = ks.length → bindArgs (PySem.W.fnOf x qual (defArgs st) (defBody st) (defScope st) .none kV doc pm an cdv ct) ⟨us, ks.zip ws⟩ = pure (ps.zip (us ++ permV π ws))) : KwOk fd ps ks n π := by
  obtain ⟨oc, od, kV, doc, pm, an, cdv, ct, osl, rfl, lk, hcd⟩ := F.ex
  exact ⟨fun s us ws h1 h2 => .of_eq (h kV doc pm an cdv ct us ws h1 h2)⟩
/-- a def that is never called: where a recursion begins -/
theorem ca_none {x : Str} {st : Stmt} {f : Addr} {fd : FuncData} {ps : List Str} (D : Df K mg x st f fd) (hbi : Binds K fd ps []) (hbk : ∀ (s : Shared) (us : List Value), us.length = ps.length → BindsTo s fd ⟨[], ps.zip us⟩ (ps.zip us)) : Ca P w K mg base cl 0 x ps (fun _ => none) :=
  ⟨⟨f, fd, ⟨fun vs H Q E h => (by obtain ⟨N, rs, r, _, _, _, h, _⟩ := h; cases h), fun A outer s H args us vs Q E _ _ _ _ h => (by obtain ⟨N, rs, r, _, _, _, h, _⟩ := h; cases h)⟩, D.gm, D.fn.kp, hbi, hbk⟩, fun rs r h => (by cases h)⟩
end
end Vf
namespace Vf
open PySem L2
/-! ### what the simplifier may use of worths that change the table -/
section
variable {α β : Type} {o : Option (XRes α)} {k : α → Tb → Option (XRes β)} {kk : α → Tb → Option OutX} {env : Ev} {x y z : HV} {T T' : Tb} {s l : List Sl} {n i : Nat} {d : D} {f g h : FX} {fa : FXA} {c cd : FXT} {A B : SX} {sl : Sl} {xs ys : List HV} {Q : HV → Prop}
@[simp] theorem bX_eq : bX o k = o.bind (kX k) := rfl
@[simp] theorem bS_eq : bS env o kk = o.bind (kS env.s kk) := rfl
@[simp] theorem kX_val {x : α} : kX k (.val x T) = k x T := rfl
@[simp] theorem kX_exc {c : Str} {ns : List Str} : kX k (.exc c ns xs T) = some (.exc c ns xs T) := rfl
@[simp] theorem kS_val {x : α} : kS s kk (.val x T) = kk x T := rfl
@[simp] theorem kS_exc {c : Str} {ns : List Str} : kS s kk (.exc c ns xs T) = some (.ex c ns xs ⟨s, T⟩) := rfl
@[simp] theorem xE_eq {f : FE} : xE f env = (f env).bind fun r => resX r env.t := rfl
@[simp] theorem xH_eq {h : FH} : xH h env = (h env).map fun x => .val x env.t := rfl
@[simp] theorem xOp_eq {o : TD → TD → Option TD} : xOp o f g env = (f env).bind (kX fun x T1 => (g ⟨env.s, T1⟩).bind (kX fun y T2 => opX o x y T2)) := rfl
@[simp] theorem opX_eq {o : TD → TD → Option TD} : opX o x y T = (tdX T x).bind fun a => (tdX T y).bind fun b => (o a b).bind fun r => resX r T := rfl
@[simp] theorem xUn_eq {o : TD → Option TD} : xUn o f env = (f env).bind (kX (unX o)) := rfl
@[simp] theorem unX_eq {o : TD → Option TD} : unX o x T = (tdX T x).bind fun a => (o a).bind fun r => resX r T := rfl
@[simp] theorem xNotV_eq : xNotV f env = (f env).bind (kX fun x T => (boolX x).map fun b => .val (.pu (.bl (!b))) T) := rfl
@[simp] theorem xAndV_eq : xAndV f g env = (f env).bind (kX fun x T => (boolX x).bind fun b => if b then g ⟨env.s, T⟩ else some (.val (.pu (.bl false)) T)) := rfl
@[simp] theorem xOrV_eq : xOrV f g env = (f env).bind (kX fun x T => (boolX x).bind fun b => if b then some (.val (.pu (.bl true)) T) else g ⟨env.s, T⟩) := rfl
@[simp] theorem xTru_eq : xTru f env = (f env).bind (kX fun x T => (truX T x).map fun b => .val b T) := rfl
@[simp] theorem xBl_eq : xBl f env = (f env).bind (kX fun x T => (boolX x).map fun b => .val b T) := rfl
@[simp] theorem xNotT_eq : xNotT c env = (c env).bind (kX fun b T => some (.val (!b) T)) := rfl
@[simp] theorem xAndT_eq : xAndT c cd env = (c env).bind (kX fun b T => if b then cd ⟨env.s, T⟩ else some (.val false T)) := rfl
@[simp] theorem xOrT_eq : xOrT c cd env = (c env).bind (kX fun b T => if b then some (.val true T) else cd ⟨env.s, T⟩) := rfl
@[simp] theorem xIfe_eq : xIfe c f g env = (c env).bind (kX fun b T => if b then f ⟨env.s, T⟩ else g ⟨env.s, T⟩) := rfl
@[simp] theorem xNil_eq : xNil env = some (.val [] env.t) := rfl
@[simp] theorem xCons_eq : xCons f fa env = (f env).bind (kX fun x T => (fa ⟨env.s, T⟩).bind (kX fun xs T2 => some (.val (x :: xs) T2))) := rfl
@[simp] theorem xB_eq {o : List TD → Option TD} : xB o fa env = (fa env).bind (kX (bK o)) := rfl
@[simp] theorem bK_eq {o : List TD → Option TD} : bK o xs T = (mapO (tdX T) xs).bind fun rs => (o rs).bind fun r => resX r T := rfl
@[simp] theorem xCallP_eq {g : List TD → Option TD} : xCallP g fa env = (fa env).bind (kX (pK g)) := rfl
@[simp] theorem pK_eq {g : List TD → Option TD} : pK g xs T = (mapO (tdX T) xs).bind fun rs => (g (rs.map dn)).bind fun r => resX (up r) T := rfl
@[simp] theorem xCall_eq {g : List HV → Tb → Option (XRes HV)} : xCall g fa env = (fa env).bind (kX g) := rfl
@[simp] theorem xP_eq {ct : FT} : xP ct env = (ct env).map fun b => .val b env.t := rfl
@[simp] theorem mapO_nil {f : α → Option β} : mapO f [] = some [] := rfl
@[simp] theorem mapO_cons {f : α → Option β} {x : α} {xs : List α} : mapO f (x :: xs) = (f x).bind fun y => (mapO f xs).map fun ys => y :: ys := rfl
@[simp] theorem tdX_pu : tdX T (.pu d) = some (.N, d) := rfl
@[simp] theorem resX_N : resX (.N, d) T = some (.val (.pu d) T) := rfl
@[simp] theorem boolX_bl {b : Bool} : boolX (.pu (.bl b)) = some b := rfl
@[simp] theorem truX_pu : truX T (.pu d) = tru (.N, d) := rfl
@[simp] theorem hVar_0h : hVar 0 ⟨.han n :: l, T⟩ = some (.ob n) := rfl
@[simp] theorem hVar_0v : hVar 0 ⟨.val .N d :: l, T⟩ = some (.pu d) := rfl
@[simp] theorem hVar_s : hVar (n + 1) ⟨sl :: l, T⟩ = hVar n ⟨l, T⟩ := rfl
@[simp] theorem slH_pu : slH (.pu d) = .val .N d := rfl
@[simp] theorem slH_ob : slH (.ob n) = .han n := rfl
@[simp] theorem env0H_eq : env0H n xs T = ⟨xs.map slH ++ List.replicate (n - xs.length) .un, T⟩ := rfl
@[simp] theorem setHS_pu : setHS n (.pu d) ⟨l, T⟩ = if n < l.length then some ⟨l.set n (.val .N d), T⟩ else none := rfl
@[simp] theorem setHS_ob : setHS n (.ob i) ⟨l, T⟩ = if n < l.length then some ⟨l.set n (.han i), T⟩ else none := rfl
@[simp] theorem zNx_eq : zNx env = some (.nx env) := rfl
@[simp] theorem zThen_nx : zThen B (.nx env) = B env := rfl
@[simp] theorem zThen_rt : zThen B (.rt x T) = some (.rt x T) := rfl
@[simp] theorem zThen_bk : zThen B (.bk env) = some (.bk env) := rfl
@[simp] theorem zThen_ct : zThen B (.ct env) = some (.ct env) := rfl
@[simp] theorem zThen_ex {c : Str} {ns : List Str} : zThen B (.ex c ns xs env) = some (.ex c ns xs env) := rfl
@[simp] theorem zSeq_eq : zSeq A B env = (A env).bind (zThen B) := rfl
@[simp] theorem liftO_nx : liftO (.nx env) = some (.nx env) := rfl
@[simp] theorem zLift_eq {f : FS} : zLift f env = (f env).bind liftO := rfl
@[simp] theorem zSet_eq : zSet n f env = (f env).bind (kS env.s (setZ n env.s)) := rfl
@[simp] theorem setZ_eq : setZ n s x T = (setHS n x ⟨s, T⟩).map .nx := rfl
@[simp] theorem zRet_eq : zRet f env = (f env).bind (kS env.s fun x T => some (.rt x T)) := rfl
@[simp] theorem zDo_eq : zDo f env = (f env).bind (kS env.s fun _ T => some (.nx ⟨env.s, T⟩)) := rfl
@[simp] theorem zIf_eq : zIf c A B env = (c env).bind (kS env.s fun k T => if k then A ⟨env.s, T⟩ else B ⟨env.s, T⟩) := rfl
@[simp] theorem zSto_eq {cs : List Str} {m : Str} : zSto cs m f g env = (g env).bind (kS env.s fun x T1 => (f ⟨env.s, T1⟩).bind (kS env.s fun y T2 => stoZ cs m env.s x y T2)) := rfl
@[simp] theorem zPut_eq : zPut f g h env = (h env).bind (kS env.s fun x T1 => (f ⟨env.s, T1⟩).bind (kS env.s fun y T2 => (g ⟨env.s, T2⟩).bind (kS env.s fun j T3 => putZ env.s x y j T3))) := rfl
@[simp] theorem zFor_eq {fi : FI} {st : TD → Ev → Option Ev} : zFor fi st A env = (fi env).bind fun items => forZ A st items env := rfl
@[simp] theorem zForH_eq {st : HV → Ev → Option Ev} : zForH f st A env = (f env).bind (kS env.s (forHK A st env.s)) := rfl
@[simp] theorem forHK_eq {st : HV → Ev → Option Ev} : forHK A st s x T = (srcM T x).bind fun M => forH A st x M (mobI M) ⟨s, T⟩ := rfl
@[simp] theorem finX_rt : finX (.rt x T) = some (.val x T) := rfl
@[simp] theorem finX_nx : finX (.nx env) = some (.val (.pu .non) env.t) := rfl
@[simp] theorem finX_ex {c : Str} {ns : List Str} : finX (.ex c ns xs env) = some (.exc c ns xs env.t) := rfl
@[simp] theorem xTup_eq : xTup fa env = (fa env).bind (kX tupK) := rfl
@[simp] theorem xLst_eq : xLst fa env = (fa env).bind (kX lstK) := rfl
@[simp] theorem xFld_eq {cs : List Str} {m : Str} : xFld cs m f env = (f env).bind (kX (fldX cs m)) := rfl
@[simp] theorem xIx_eq : xIx f g env = (f env).bind (kX fun x T1 => (g ⟨env.s, T1⟩).bind (kX fun y T2 => ixK x y T2)) := rfl
@[simp] theorem ixK_int {j : Int} : ixK x (.pu (.int j)) T = (ixX T x j).map fun z => .val z T := rfl
@[simp] theorem xLm_eq {m : List HV → List HV → Option (HV × List HV)} : xLm m f fa env = (f env).bind (kX fun x T1 => (isLst T1 x).bind fun _ => (fa ⟨env.s, T1⟩).bind (kX fun xs T2 => lmK m x xs T2)) := rfl
@[simp] theorem xMeth_eq {c m : Str} {gg : List HV → Tb → Option (XRes HV)} : xMeth c m gg f fa env = (f env).bind (kX fun x T1 => (insOf T1 x).bind fun q => if q.1 = c ∧ m ∉ q.2 then (fa ⟨env.s, T1⟩).bind (kX fun xs T2 => gg (x :: xs) T2) else none) := rfl
@[simp] theorem xMethK_eq {c m : Str} {gg : List HV → Tb → Option (XRes HV)} {ks : List Str} {π : List Nat} : xMethK c m gg ks π f fa env = (f env).bind (kX fun x T1 => (insOf T1 x).bind fun q => if q.1 = c ∧ m ∉ q.2 then (fa ⟨env.s, T1⟩).bind (kX fun xs T2 => if xs.length = ks.length then gg (x :: permH π xs) T2 else none) else none) := rfl
@[simp] theorem xMake_eq {c : Str} {gg : List HV → Tb → Option (XRes HV)} : xMake c gg fa env = (fa env).bind (kX (mkX c gg)) := rfl
@[simp] theorem xMakeK_eq {c : Str} {gg : List HV → Tb → Option (XRes HV)} {ks : List Str} {π : List Nat} : xMakeK c gg ks π fa env = (fa env).bind (kX fun xs T => if xs.length = ks.length then mkX c gg (permH π xs) T else none) := rfl
@[simp] theorem mkX_eq {c : Str} {gg : List HV → Tb → Option (XRes HV)} : mkX c gg xs T = (gg (.ob T.length :: xs) (T ++ [some (.ins c [] [])])).bind (mkR T.length) := rfl
@[simp] theorem mkR_non : mkR n (.val (.pu .non) T) = some (.val (.ob n) T) := rfl
@[simp] theorem xIsi_eq {t : String} : xIsi t f env = (f env).bind (kX (isiX t)) := rfl
@[simp] theorem isiX_eq {t : String} : isiX t x T = (tdX T x).bind fun r => (isiD r.2 t).map fun k => .val (.pu (.bl k)) T := rfl
@[simp] theorem xList_eq : xList f env = (f env).bind (kX listK) := rfl
@[simp] theorem listK_eq : listK x T = (srcM T x).map fun M => .val (.ob T.length) (T ++ [some (.lst (mobI M))]) := rfl
@[simp] theorem xTupOf_eq : xTupOf f env = (f env).bind (kX tupOfK) := rfl
@[simp] theorem xLen_eq : xLen f env = (f env).bind (kX lenK) := rfl
@[simp] theorem lenK_pu : lenK (.pu d) T = (lenB [(.N, d)]).bind fun r => resX r T := rfl
@[simp] theorem lenK_ob {M : Mob} (h : srcM T (.ob n) = some M) : lenK (.ob n) T = some (.val (.pu (.int (mobI M).length)) T) := by
  unfold lenK
  unfold srcM at h
  dsimp only at h ⊢
  split
  · rename_i e; rw [e] at h; cases h
  · show (srcM T (.ob n)).map _ = _
    unfold srcM
    dsimp only
    rw [h]; rfl
@[simp] theorem ixK_str {z : Str} : ixK x (.pu (.str z)) T = (ixXS T x z).map fun y => .val y T := rfl
@[simp] theorem mobI_lst : mobI (.lst xs) = xs := rfl
@[simp] theorem mobI_tup : mobI (.tup xs) = xs := rfl
@[simp] theorem srcM_l {ds : List D} : srcM T (.pu (.lst ds)) = some (.lst (ds.map .pu)) := rfl
@[simp] theorem srcM_s {ds : List D} : srcM T (.pu (.scr ds)) = some (.lst (ds.map .pu)) := rfl
@[simp] theorem srcM_t {ds : List D} : srcM T (.pu (.tup ds)) = some (.tup (ds.map .pu)) := rfl
theorem srcM_ob (h : T[n]? = some (some (.lst xs))) : srcM T (.ob n) = some (.lst xs) := by
  unfold srcM
  simp [h]
theorem obLst_ob (h : T[n]? = some (some (.lst xs))) : obLst T (.ob n) = some (n, xs) := by
  unfold obLst
  simp [h]
theorem putZ_lst {i : Int} (h : T[n]? = some (some (.lst xs))) : putZ s x (.ob n) (.pu (.int i)) T = (ixN xs.length i).map fun j => .nx ⟨s, T.set n (some (.lst (xs.set j x)))⟩ := by
  have e : obDic T (.ob n) = none := by unfold obDic; dsimp only; rw [h]
  unfold putZ putL
  rw [e, obLst_ob h]
  rfl
theorem isLst_ob (h : T[n]? = some (some (.lst xs))) : isLst T (.ob n) = some () := by
  unfold isLst
  rw [obLst_ob h]
  rfl
theorem lmK_ob {m : List HV → List HV → Option (HV × List HV)} (h : T[n]? = some (some (.lst ys))) : lmK m (.ob n) xs T = (m ys xs).map fun r => .val r.1 (T.set n (some (.lst r.2))) := by
  unfold lmK
  rw [obLst_ob h]
  rfl
theorem snap_ob {M : Mob} (h : T[n]? = some (some M)) : snapN T (i + 1) (.ob n) = snapM (snapN T i) M := by
  show (match T[n]? with | some (some M) => snapM (snapN T i) M | _ => none) = _
  rw [h]
@[simp] theorem snapN_pu : snapN T i (.pu d) = some d := by cases i <;> rfl
@[simp] theorem snapM_lst {f : HV → Option D} : snapM f (.lst xs) = (mapO f xs).map .lst := rfl
@[simp] theorem snapM_tup {f : HV → Option D} : snapM f (.tup xs) = (mapO f xs).map .tup := rfl
@[simp] theorem snapM_ins {f : HV → Option D} {c : Str} {fs : List Str} : snapM f (.ins c fs xs) = (mapO f xs).map (.ins c fs) := rfl
theorem tdX_ob {M : Mob} (h : T[n]? = some (some M)) : tdX T (.ob n) = (snapM (snapN T 8) M).map fun d => (.T, d) := by
  show (snapN T 9 (.ob n)).map _ = _
  rw [snap_ob h]
theorem mapO_map {f : β → Option D} {g : α → β} {F : α → D} : ∀ {xs : List α}, (∀ x ∈ xs, f (g x) = some (F x)) → mapO f (xs.map g) = some (xs.map F)
  | [], _ => rfl
  | x :: xs, h => by
    rw [List.map_cons, mapO_cons, h x List.mem_cons_self, mapO_map fun y hy => h y (List.mem_cons_of_mem _ hy)]
    rfl
@[simp] theorem mapO_pus {ds : List D} : mapO (snapN T i) (ds.map .pu) = some ds := by
  have := mapO_map (f := snapN T i) (g := HV.pu) (F := fun d => d) (xs := ds) fun x _ => snapN_pu
  simpa using this
@[simp] theorem pures_pus : ∀ {ds : List D}, pures (ds.map .pu) = some ds
  | [] => rfl
  | d :: ds => by
    show (pures (ds.map .pu)).map (d :: ·) = _
    rw [pures_pus]
    rfl
@[simp] theorem ixX_pu {j : Int} : ixX T (.pu d) j = (ixD (.N, d) j).bind fun r => if r.1 = .N then some (.pu r.2) else none := rfl
theorem ixX_lst {j : Int} (h : T[n]? = some (some (.lst xs))) : ixX T (.ob n) j = atI xs j := by
  unfold ixX
  simp [h]
@[simp] theorem mApp_one : mApp ys [x] = if ys.length ≤ lim then some (.pu .non, ys ++ [x]) else none := rfl
@[simp] theorem setXCons_cons {st : HV → Ev → Option Ev} {r : List HV → Ev → Option Ev} : setXCons st r (x :: xs) env = (st x env).bind fun e => r xs e := rfl
@[simp] theorem setXTup_eq {r : List HV → Ev → Option Ev} : setXTup n r x env = (srcM env.t x).bind fun M => if (mobI M).length = n then r (mobI M) env else none := rfl
end
/-! loops -/
theorem forZ_inv {A : SX} {s : TD → Ev → Option Ev} {Q : OutX → Prop} : ∀ {items : List TD} (I : Nat → Ev → Prop) (k0 : Nat) {env : Ev}, I k0 env →
    (∀ (k : Nat) (r : TD) (env : Ev), items[k]? = some r → I (k0 + k) env → Ok (s r env) fun e1 => Ok (A e1) fun o => match o with
      | .nx e => I (k0 + k + 1) e
      | .ct e => I (k0 + k + 1) e
      | .bk e => Q (.nx e)
      | o => Q o) → (∀ env, I (k0 + items.length) env → Q (.nx env)) → Ok (forZ A s items env) Q
  | [], I, k0, env, h0, _, he => Ok_some.mpr (he env h0)
  | r :: rs, I, k0, env, h0, hs, he => by
    obtain ⟨e1, q1, o, q2, q3⟩ := hs 0 r env rfl h0
    show Ok ((s r env).bind _) Q
    rw [q1]
    show Ok ((A e1).bind _) Q
    rw [q2]
    have next : ∀ e, I (k0 + 1) e → Ok (forZ A s rs e) Q := fun e hi => forZ_inv I (k0 + 1) hi (fun k r env hk hI => by
      have := hs (k + 1) r env (by simpa using hk) (by rw [Nat.add_assoc, Nat.add_comm 1 k] at hI; exact hI)
      rw [Nat.add_assoc k0 1 k, Nat.add_comm 1 k]
      exact this) (fun env hI => he env (by rw [List.length_cons, Nat.add_comm rs.length 1, ← Nat.add_assoc]; exact hI))
    cases o with
    | nx e => exact next e q3
    | ct e => exact next e q3
    | bk e => exact Ok_some.mpr q3
    | rt x T => exact Ok_some.mpr q3
    | ex c ns xs e => exact Ok_some.mpr q3
theorem forZ_ok {A : SX} {s : TD → Ev → Option Ev} {Q : OutX → Prop} {items : List TD} (I : Nat → Ev → Prop) {env : Ev} (h0 : I 0 env)
    (hs : ∀ (k : Nat) (r : TD) (env : Ev), items[k]? = some r → I k env → Ok (s r env) fun e1 => Ok (A e1) fun o => match o with
      | .nx e => I (k + 1) e
      | .ct e => I (k + 1) e
      | .bk e => Q (.nx e)
      | o => Q o) (he : ∀ env, I items.length env → Q (.nx env)) : Ok (forZ A s items env) Q :=
  forZ_inv I 0 h0 (fun k r env hk hI => by simpa using hs k r env hk (by simpa using hI)) (fun env hI => he env (by simpa using hI))
theorem forH_inv {A : SX} {s : HV → Ev → Option Ev} {x : HV} {M : Mob} {Q : OutX → Prop} : ∀ {items : List HV} (I : Nat → Ev → Prop) (k0 : Nat) {env : Ev}, I k0 env → (∀ k env, I k env → srcM env.t x = some M) →
    (∀ (k : Nat) (r : HV) (env : Ev), items[k]? = some r → I (k0 + k) env → Ok (s r env) fun e1 => Ok (A e1) fun o => match o with
      | .nx e => I (k0 + k + 1) e
      | .ct e => I (k0 + k + 1) e
      | .bk e => Q (.nx e)
      | o => Q o) → (∀ env, I (k0 + items.length) env → Q (.nx env)) → Ok (forH A s x M items env) Q
  | [], I, k0, env, h0, hM, _, he => by
    unfold forH
    exact Ok_cif.mpr ⟨hM _ _ h0, Ok_some.mpr (he env h0)⟩
  | r :: rs, I, k0, env, h0, hM, hs, he => by
    obtain ⟨e1, q1, o, q2, q3⟩ := hs 0 r env rfl h0
    unfold forH
    refine Ok_cif.mpr ⟨hM _ _ h0, ?_⟩
    rw [q1]
    show Ok ((A e1).bind _) Q
    rw [q2]
    have next : ∀ e, I (k0 + 1) e → Ok (forH A s x M rs e) Q := fun e hi => forH_inv I (k0 + 1) hi hM (fun k r env hk hI => by
      have := hs (k + 1) r env (by simpa using hk) (by rw [Nat.add_assoc, Nat.add_comm 1 k] at hI; exact hI)
      rw [Nat.add_assoc k0 1 k, Nat.add_comm 1 k]
      exact this) (fun env hI => he env (by rw [List.length_cons, Nat.add_comm rs.length 1, ← Nat.add_assoc]; exact hI))
    cases o with
    | nx e => exact next e q3
    | ct e => exact next e q3
    | bk e => exact Ok_some.mpr q3
    | rt x T => exact Ok_some.mpr q3
    | ex c ns xs e => exact Ok_some.mpr q3
theorem forH_ok {A : SX} {s : HV → Ev → Option Ev} {x : HV} {M : Mob} {Q : OutX → Prop} {items : List HV} (I : Nat → Ev → Prop) {env : Ev} (h0 : I 0 env) (hM : ∀ k env, I k env → srcM env.t x = some M)
    (hs : ∀ (k : Nat) (r : HV) (env : Ev), items[k]? = some r → I k env → Ok (s r env) fun e1 => Ok (A e1) fun o => match o with
      | .nx e => I (k + 1) e
      | .ct e => I (k + 1) e
      | .bk e => Q (.nx e)
      | o => Q o) (he : ∀ env, I items.length env → Q (.nx env)) : Ok (forH A s x M items env) Q :=
  forH_inv I 0 h0 hM (fun k r env hk hI => by simpa using hs k r env hk (by simpa using hI)) (fun env hI => he env (by simpa using hI))
/-- a comprehension, item by item: I tells of the items made so far and the table -/
theorem lcX_inv {ct : FXT} {fe : FX} {s : HV → Ev → Option Ev} {sl : List Sl} {x : HV} {M : Mob} (I : Nat → List HV → Tb → Prop) (hM : ∀ k ys T, I k ys T → srcM T x = some M) : ∀ {ys : List HV} (k0 : Nat) (done : List HV) {T : Tb}, I k0 done T →
    (∀ (k : Nat) (y : HV) (done : List HV) (T : Tb), ys[k]? = some y → I (k0 + k) done T → Ok (s y ⟨sl, T⟩) fun e => Ok (ct e) fun r => ∃ b T1, r = .val b T1 ∧ (b = true → Ok (fe ⟨e.s, T1⟩) fun r => ∃ v T2, r = .val v T2 ∧ I (k0 + k + 1) (done ++ [v]) T2) ∧ (b = false → I (k0 + k + 1) done T1)) →
    Ok (lcX ct fe s sl x M ys T) fun r => I (k0 + ys.length) (done ++ r.1) r.2
  | [], k0, done, T, h0, _ => by
    unfold lcX
    exact Ok_cif.mpr ⟨hM _ _ _ h0, Ok_some.mpr (by simpa using h0)⟩
  | y :: ys, k0, done, T, h0, hs => by
    obtain ⟨e, q1, r, q2, b, T1, rfl, q3, q4⟩ := hs 0 y done T rfl h0
    have next : ∀ done T, I (k0 + 1) done T → Ok (lcX ct fe s sl x M ys T) fun r => I (k0 + (ys.length + 1)) (done ++ r.1) r.2 := fun done T hi => by
      have := lcX_inv (ct := ct) (fe := fe) (s := s) (sl := sl) I hM (ys := ys) (k0 + 1) done hi (fun k r done T hk hI => by
        have := hs (k + 1) r done T (by simpa using hk) (by rw [Nat.add_assoc, Nat.add_comm 1 k] at hI; exact hI)
        rw [Nat.add_assoc k0 1 k, Nat.add_comm 1 k]
        exact this)
      rw [Nat.add_assoc, Nat.add_comm 1] at this
      exact this
    unfold lcX
    refine Ok_cif.mpr ⟨hM _ _ _ h0, ?_⟩
    rw [q1]
    show Ok ((valX (ct e)).bind _) _
    rw [q2]
    cases b with
    | false =>
      show Ok (lcX ct fe s sl x M ys T1) _
      exact next done T1 (q4 rfl)
    | true =>
      obtain ⟨r, q5, v, T2, rfl, q6⟩ := q3 rfl
      show Ok ((valX (fe ⟨e.s, T1⟩)).bind _) _
      rw [q5]
      show Ok ((lcX ct fe s sl x M ys T2).map _) _
      rw [Ok_map]
      refine (next _ T2 q6).mono fun r hr => ?_
      show I (k0 + (ys.length + 1)) (done ++ v :: r.1) r.2
      have : done ++ v :: r.1 = done ++ [v] ++ r.1 := by simp
      rw [this]
      exact hr
theorem lcX_ok {ct : FXT} {fe : FX} {s : HV → Ev → Option Ev} {sl : List Sl} {x : HV} {M : Mob} (I : Nat → List HV → Tb → Prop) (hM : ∀ k ys T, I k ys T → srcM T x = some M) {ys : List HV} {T : Tb} (h0 : I 0 [] T)
    (hs : ∀ (k : Nat) (y : HV) (done : List HV) (T : Tb), ys[k]? = some y → I k done T → Ok (s y ⟨sl, T⟩) fun e => Ok (ct e) fun r => ∃ b T1, r = .val b T1 ∧ (b = true → Ok (fe ⟨e.s, T1⟩) fun r => ∃ v T2, r = .val v T2 ∧ I (k + 1) (done ++ [v]) T2) ∧ (b = false → I (k + 1) done T1)) :
    Ok (lcX ct fe s sl x M ys T) fun r => I ys.length r.1 r.2 := by
  have := lcX_inv (ct := ct) (fe := fe) (s := s) (sl := sl) I hM (ys := ys) 0 [] h0 (fun k y done T hk hI => by simpa using hs k y done T hk (by simpa using hI))
  simpa using this
@[simp] theorem xLc_eq {f : FX} {s : HV → Ev → Option Ev} {ct : FXT} {fe : FX} {vs : List Nat} {l : List Sl} {T0 : Tb} : xLc f s ct fe vs ⟨l, T0⟩ = if ownFree l then (f ⟨l, T0⟩).bind (kX fun x T => lcXK ct fe s (wipeE ⟨l, T⟩ vs).s x T) else none := rfl
@[simp] theorem ownFree_nil : ownFree [] = true := rfl
@[simp] theorem ownFree_un {l : List Sl} : ownFree (.un :: l) = ownFree l := rfl
@[simp] theorem ownFree_val {l : List Sl} {t : Tg} {d : D} : ownFree (.val t d :: l) = ownFree l := rfl
@[simp] theorem ownFree_han {l : List Sl} {n : Nat} : ownFree (.han n :: l) = ownFree l := rfl
@[simp] theorem lcXK_eq {ct : FXT} {fe : FX} {s : HV → Ev → Option Ev} {sl : List Sl} {x : HV} {T : Tb} : lcXK ct fe s sl x T = (srcM T x).bind fun M => if (mobI M).length ≤ lim then (lcX ct fe s sl x M (mobI M) T).map fun r => .val (.ob r.2.length) (r.2 ++ [some (.lst r.1)]) else none := rfl
end Vf
/-! tuple * int, all numbers up to a thousand -/
namespace Vf
open PySem PySem.Spec PyProof.Rows L2
theorem tuple_mul1 (l : Addr) (items : Array Value) (n : Nat) (dd : Option Addr) (sl : Array (Option Value)) (u : Tok) :
    Meets (Builtin.«tuple.__mul__» ⟨[.ref l, .int 1 u], []⟩) (fun _ R s => s.heap.get? l = some { cls := .type "tuple", dict := dd, data := .seq items n, slots := sl } ∧
      R (.ok (.ret (Value.ref l))) s) :=
  .of_wp fun prog w A R s h => by
    obtain ⟨hp, g, d, tk, os⟩ := s
    obtain ⟨hl, h⟩ := h
    have f1 := AutoSeq1.idx_int
    wp_walk using wpAny_loadPart' hl
    repeat (first
      | (refine wpAny_ite_false (decide_eq_false (by decide)) ?_; wp_walk using wpAny_loadPart' hl)
      | (refine wpAny_ite_true (by simp) ?_; wp_walk using wpAny_loadPart' hl))
    exact ⟨_, rfl, h⟩
theorem tuple_mul0 (l : Addr) (items : Array Value) (n : Nat) (dd : Option Addr) (sl : Array (Option Value)) (x : Int) (u : Tok) (c0 : (decide (x < -(2 ^ 63)) || decide (x ≥ 2 ^ 63)) = false) (c1 : (items.isEmpty || x == 1) = false) (c2 : (decide (x ≤ 0) || items.isEmpty) = true) :
    Meets (Builtin.«tuple.__mul__» ⟨[.ref l, .int x u], []⟩) (fun _ R s => s.heap.get? l = some { cls := .type "tuple", dict := dd, data := .seq items n, slots := sl } ∧
      R (.ok (.ret (Value.ref s.heap.objs.size))) { s with heap := s.heap.push { cls := Value.type "tuple", data := Data.seq #[] }, toks := s.toks }) :=
  .of_wp fun prog w A R s h => by
    obtain ⟨hp, g, d, tk, os⟩ := s
    obtain ⟨hl, h⟩ := h
    have f1 := AutoSeq1.idx_int
    wp_walk using wpAny_loadPart' hl
    repeat (first
      | (refine wpAny_ite_false (decide_eq_false (by rw [c0]; exact Bool.false_ne_true)) ?_; wp_walk using wpAny_loadPart' hl)
      | (refine wpAny_ite_false (decide_eq_false (by rw [c1]; exact Bool.false_ne_true)) ?_; wp_walk using wpAny_loadPart' hl)
      | (refine wpAny_ite_true (decide_eq_true c2) ?_; wp_walk using wpAny_loadPart' hl))
    exact ⟨_, rfl, h⟩
/-- tuple * number -/
def rRepX (K : PySem.W.Frag) : R2 := fun x y H Q => ∃ l k xs, x = .ref l ∧ y = .int k ∧ SqT K H l xs ∧ xs ≠ [] ∧ xs.length ≤ 1000 ∧ -1000 ≤ k ∧ k ≤ 1000 ∧ (k = 1 → Q (.ref l) H) ∧ (k ≠ 1 → ∀ p, H p = none → Q (.ref p) (upd H p (.tup (List.replicate k.toNat xs).flatten)))
theorem op_repX {X : Cx} : OpR X (binaryOp .Mult) (rRepX X.K) := by
  intro pins s σ H x y v u Q I rx ry h
  obtain ⟨l, k, xs, rfl, rfl, hT, hne, hz, h1, h2, q1, q2⟩ := h
  by_cases hk2 : 2 ≤ k
  · exact op_repT pins s σ H _ _ v u Q I rx ry ⟨l, k, xs, rfl, rfl, hT, hne, hk2, h2, hz, q2 (by omega)⟩
  cases rx
  obtain ⟨t, rfl⟩ := ry
  obtain ⟨its, r, ⟨⟨cls, dd, data, sl⟩, ho, hc, n, hd⟩, hs⟩ := I.tuple hT
  simp only at hc hd
  subst hc hd
  have hle : its.length = xs.length := r.length.symm
  have hn : its ≠ [] := fun e => hne (by
    rw [e] at hle
    exact List.eq_nil_of_length_eq_zero hle.symm)
  have hi : its.toArray.isEmpty = false := by
    cases its with
    | nil => exact absurd rfl hn
    | cons a b => rfl
  by_cases hk1 : k = 1
  · subst hk1
    refine wpAny_binaryOp_repeat_ref (T := "tuple") (U := "int") (by decide) ⟨_, ho, rfl⟩ (fun s' => typeIs_int s' 1 t) noFill_tuple_mul F.fills_int_mul F.slot_int_rmul repeat_tuple F.slot_int_index.lookup
      (call_meets F.slot_int_rmul (typeIs_int s 1 t) F.entry_int_rmul (F.args_int_rmul_2 _ _) (int_rmul_tuple 1 t l its.toArray n dd sl)
        ⟨ho, rfl, ⟨_, ho, rfl⟩, call_meets F.slot_tuple_mul ⟨_, ho, rfl⟩ F.entry_tuple_mul (F.args_tuple_mul_2 _ _) (tuple_mul1 l its.toArray n dd sl t) ⟨ho, ?_⟩⟩)
    exact ⟨.ref l, H, I, rfl, q1 rfl⟩
  · have c0 : (decide (k < -(2 ^ 63)) || decide (k ≥ 2 ^ 63)) = false := by
      rw [decide_eq_false (by omega), decide_eq_false (by omega)] <;> rfl
    have c1 : (its.toArray.isEmpty || k == 1) = false := by
      rw [hi, Bool.false_or]
      exact beq_eq_false_iff_ne.mpr hk1
    have c2 : (decide (k ≤ 0) || its.toArray.isEmpty) = true := by
      rw [decide_eq_true (by omega), Bool.true_or]
    refine wpAny_binaryOp_repeat_ref (T := "tuple") (U := "int") (by decide) ⟨_, ho, rfl⟩ (fun s' => typeIs_int s' k t) noFill_tuple_mul F.fills_int_mul F.slot_int_rmul repeat_tuple F.slot_int_index.lookup
      (call_meets F.slot_int_rmul (typeIs_int s k t) F.entry_int_rmul (F.args_int_rmul_2 _ _) (int_rmul_tuple k t l its.toArray n dd sl)
        ⟨ho, rfl, ⟨_, ho, rfl⟩, call_meets F.slot_tuple_mul ⟨_, ho, rfl⟩ F.entry_tuple_mul (F.args_tuple_mul_2 _ _) (tuple_mul0 l its.toArray n dd sl k t c0 c1 c2) ⟨ho, ?_⟩⟩)
    have e0 : (List.replicate k.toNat xs).flatten = [] := by
      have : k.toNat = 0 := by omega
      rw [this]
      rfl
    have qq := q2 hk1 _ (I.hok.fresh (Nat.le_refl _))
    rw [e0] at qq
    refine ⟨.ref s.heap.objs.size, _, I.laid (t' := s.toks) (o := .tup []) (fun b ob q => Heap.get?_push_of_some _ q) (Nat.le_refl _) ?_, rfl, qq⟩
    exact ⟨by rw [sizeLine_eq]; exact Nat.zero_le _, [], .nil, IsTup.new _ _⟩
noncomputable def oMulX (a b : TD) : Option TD := match a.2 with
  | .tup xs => (match b.2 with
    | .int k => cif (xs ≠ [] ∧ xs.length ≤ 1000 ∧ -1000 ≤ k ∧ k ≤ 1000) (some (if k = 1 then (a.1, .tup xs) else (el a.1, .tup (List.replicate k.toNat xs).flatten))) none
    | _ => none)
  | _ => oMul a b
theorem or_mulX {X : Cx} {cl : Str → Option Addr} : OpR X (binaryOp .Mult) (rO (zx X cl) oMulX) := by
  rintro pins s σ H x y v u Q I rx ry ⟨w, ⟨t, d⟩, ⟨t', d'⟩, z, eH, hw, ha, hb, ho, q⟩
  unfold oMulX at ho
  dsimp only at ho
  split at ho
  · rename_i xs
    split at ho
    · rename_i k
      obtain ⟨hc, ho⟩ := cif_get ho
      cases ho
      have ha' := ha
      obtain ⟨p, vs, rfl, h1, h2⟩ := ha.tup hw
      have e2 := rv_int hw hb
      subst eH e2
      refine op_repX pins s σ w.H _ _ v u Q I rx ry ⟨p, k, vs, rfl, rfl, h1, ?_, ?_, hc.2.2.1, hc.2.2.2, fun hk => ?_, fun hk np hnp => ?_⟩
      · intro e
        subst e
        cases h2
        exact hc.1 rfl
      · rw [h2.length]; exact hc.2.1
      · rw [if_pos hk] at q
        exact q _ w (Gr.refl hw) ha'
      · rw [if_neg hk] at q
        have g := Gr.put hw (t := el t) (o := .tup (List.replicate k.toNat vs).flatten) hnp
        have := q _ _ g (new_tup hw (el_ne _) hnp (h2.rep _))
        rw [put_H] at this
        exact this
    · cases ho
  · exact or_mul (cl := cl) pins s σ H x y v u Q I rx ry ⟨w, (t, d), (t', d'), z, eH, hw, ha, hb, ho, q⟩
section
variable {t u : Tg} {i k : Int} {xs : List D} {x : Str} {r : TD} {Q : TD → Prop}
@[simp] theorem oMulX_int : oMulX (t, .int i) r = oMul (t, .int i) r := rfl
@[simp] theorem oMulX_lst : oMulX (t, .lst xs) r = oMul (t, .lst xs) r := rfl
@[simp] theorem oMulX_str : oMulX (t, .str x) r = oMul (t, .str x) r := rfl
@[simp] theorem Ok_oMulX_tup : Ok (oMulX (t, .tup xs) (u, .int k)) Q ↔ (xs ≠ [] ∧ xs.length ≤ 1000 ∧ -1000 ≤ k ∧ k ≤ 1000) ∧ Q (if k = 1 then (t, .tup xs) else (el t, .tup (List.replicate k.toNat xs).flatten)) := by
  show Ok (cif _ _ none) Q ↔ _
  simp
end
end Vf
namespace Vf
open PySem L2
/-! ### pop(i), insert(i, e) -/
def rInsV : V → List V → Hp → VK → Prop := fun x vs H Q => ∃ (l : Addr) (xs : List V) (i : Int) (y : V), x = .ref l ∧ vs = [.int i, y] ∧ H l = some (.lst xs) ∧ xs.length < sizeLine ∧ 0 ≤ i ∧ i < 2 ^ 63 ∧ Q .non (upd H l (.lst (xs.take i.toNat ++ [y] ++ xs.drop i.toNat)))
theorem mt_insV {X : Cx} : MtR X "list.insert" rInsV := mt_insert
theorem lm_ins : LmOk mIns rInsV := by
  intro Z w l ys as yh ah res new hy ha hm
  unfold mIns at hm
  split at hm
  · rename_i i y
    obtain ⟨⟨h1, h2, h3⟩, h4⟩ := Lw.cif_some hm
    cases h4
    obtain ⟨v, u, rfl, hv, hu⟩ := ha.two
    have hv : v = .int i := rp_val (d := .int i) rfl hv
    subst hv
    have hm1 : HvsOk Z w (ys.take i.toNat ++ [u]) (yh.take i.toNat ++ [y]) := (hy.take _).app (us := [u]) (ys := [y]) ⟨hu, trivial⟩
    exact ⟨.non, ys.take i.toNat ++ [u] ++ ys.drop i.toNat, .non, hm1.app (hy.drop _), fun Q H hH hQ => ⟨l, ys, i, u, rfl, rfl, hH, lim_lt (by rw [hy.length]; exact h1), h2, by omega, hQ⟩⟩
  · cases hm
noncomputable def mPopI (ys as : List HV) : Option (HV × List HV) := match as with | [.pu (.int i)] => cif (-4611686018427387904 ≤ i ∧ i < 4611686018427387904) ((ixN ys.length i).bind fun k => (ys[k]?).map fun y => (y, ys.eraseIdx k)) none | _ => none
@[simp] theorem Ok_mPopI {ys : List HV} {i : Int} {Q : HV × List HV → Prop} : Ok (mPopI ys [.pu (.int i)]) Q ↔ (-4611686018427387904 ≤ i ∧ i < 4611686018427387904) ∧ Ok ((ixN ys.length i).bind fun k => (ys[k]?).map fun y => (y, ys.eraseIdx k)) Q := by
  show Ok (cif _ _ none) Q ↔ _
  exact Ok_cif
@[simp] theorem Ok_mIns {ys : List HV} {i : Int} {y : HV} {Q : HV × List HV → Prop} : Ok (mIns ys [.pu (.int i), y]) Q ↔ (ys.length ≤ lim ∧ 0 ≤ i ∧ i < 4611686018427387904) ∧ Q (.pu .non, ys.take i.toNat ++ [y] ++ ys.drop i.toNat) := by
  show Ok (cif _ _ none) Q ↔ _
  rw [Ok_cif, Ok_some]
end Vf
namespace Vf
open PySem L2
/-! ### an exception object with its own __init__, made outside of a raise -/
end Vf
namespace Vf
open PySem L2
/-! ### the __init__ of an exception class: rows self.f = e, e pure -/
/-- the object at a as it stands: nothing stored yet, or its dict at dx; neither is known to anyone else -/
def IniAt (w : Wd) (a C : Addr) (st : List (Str × V)) : Prop := w.B a = none ∧ ((st = [] ∧ w.H a = some (exo a C none)) ∨ ∃ dx, w.B dx = none ∧ dx ≠ a ∧ w.H a = some (exo a C (some dx)) ∧ w.H dx = some (exd dx st))
theorem IniAt.gr {w w' : Wd} {a C : Addr} {st : List (Str × V)} (g : Gr w w') (h : IniAt w a C st) : IniAt w' a C st := by
  have nb : ∀ x u, w.B x = none → w.H x = some u → w'.B x = none := fun x u h1 h2 => by
    cases q : w'.B x with
    | none => rfl
    | some o =>
      rcases g.fb x (by rw [q]; exact fun z => nomatch z) with z | z
      · exact absurd h1 z
      · rw [h2] at z; cases z
  rcases h with ⟨h0, ⟨h1, h2⟩ | ⟨dx, h1, h2, h3, h4⟩⟩
  · exact ⟨nb _ _ h0 h2, .inl ⟨h1, g.h _ _ h2⟩⟩
  · exact ⟨nb _ _ h0 h3, .inr ⟨dx, nb _ _ h1 h4, h2, g.h _ _ h3, g.h _ _ h4⟩⟩
end Vf
namespace Vf
open PySem L2
/-! ### raise C(e, ..), C with its own __init__ -/
def zRaise (c : Str) (g : List D → Option (List (Str × D))) (fa : FXA) : SX := fun env => bS env (fa env) fun xs T => if xs.length ≤ 1000 then (pures xs).bind fun ds => (g ds).bind fun out => if out.isEmpty then none else some (.ex c (out.map (·.1)) (out.map fun q => .pu q.2) ⟨env.s, T⟩) else none
section
variable {X : Cx} {cl : Str → Option Addr} {W : WX} {x c : Str} {C fI : Addr} {k : Nat} {fd : FuncData} {ps : List Str} {g : List D → Option (List (Str × D))} {e : Expr} {es : List Expr} {fa : FXA} {p pos pos' : Pos}
@[simp] theorem zRaise_eq {env : Ev} : zRaise c g fa env = (fa env).bind (kS env.s fun xs T => if xs.length ≤ 1000 then (pures xs).bind fun ds => (g ds).bind fun out => if out.isEmpty then none else some (.ex c (out.map (·.1)) (out.map fun q => .pu q.2) ⟨env.s, T⟩) else none) := rfl
end
end Vf
/-! ### enumerate over a list or a tuple, from any number -/
namespace PySem
open Sem (wp)
open AutoSeq1 (wpAny_loadPart')
end PySem
namespace Vf
open PySem PySem.Spec PyProof.Rows L2
end Vf
namespace Vf
open PySem L2
/-! ### enumerate, by data -/
/-! ### new dicts -/
end Vf
namespace Vf
open PySem L2
/-! ### {k: v for ..} -/
end Vf
namespace L2
open PySem PySem.Spec PyProof.Rows
end L2
namespace Vf
open PySem L2
end Vf
namespace Vf
open PySem L2
/-! ### dicts of the module -/
end Vf
/-! ### set(xs) of keys of one kind, any number of them; its length -/
namespace Vf
open PySem PySem.Spec PyProof.Rows L2
end Vf
namespace Vf
open PySem PySem.Spec PyProof.Rows L2
/-! ### len(set(e)) -/
end Vf
namespace Vf
open PySem L2
/-! ### comprehensions over trees whose items see the table -/
/-! ### f(*e), C(*e) -/
/-! ### a try whose body raises nothing -/
section
variable {X : Cx} {cl : Str → Option Addr} {W : WX} {A : SX} {body : List Stmt} {h₀ : ExceptHandler} {hs : List ExceptHandler} {pos : Pos} {j : Nat}
theorem XS.nox (h : XS X) : XS X.nox := ⟨h.calm, h.nd, h.hu⟩
end
end Vf
namespace Vf
open PySem L2
/-! ### f-strings -/
/-! ### xs.extend(ys), both in the table -/
end Vf
namespace Vf
open PySem PySem.Spec PyProof.Rows L2
/-! ### list(reversed(xs)) of a tuple -/
end Vf
namespace Vf
open PySem L2
/-! ### isinstance of an own class, == by an own __eq__ -/
structure IsC (K : PySem.W.Frag) (mg : Str → Option Value) (cl : Str → Option Addr) (c : Str) : Prop where
  ex : ∃ C, mg c = some (.ref C) ∧ cl c = some C ∧ Cls K C ∧ PySem.W.findIn K (.ref C) "__class__" = some (some (.builtin "object.__class__")) ∧ PySem.W.specialIn K (.builtin "object.__class__") "__get__" = some (some (.builtin "getset_descriptor.__get__")) ∧
    PySem.W.takesIn K (.builtin "object.__class__") = some true ∧ PySem.W.mroIn K C (.type "object") = some true
def isoX (c : Str) (x : HV) (T : Tb) : Option (XRes HV) := (insOf T x).bind fun q => if q.1 = c then some (.val (.pu (.bl true)) T) else none
def xIso (c : Str) (f : FX) : FX := fun env => bX (f env) (isoX c)
theorem kit_self (K : PySem.W.Frag) (C : Addr) : PySem.W.kitOne K (.ref C) (.ref C) = some true := by
  unfold PySem.W.kitOne
  exact if_pos (by simp)
/-- what == asks, by the class's own def -/
def rEqO (C : Addr) (sp : Sp) : R2 := fun x y H Q => ∃ a b dx dy fs gs, x = .ref a ∧ y = .ref b ∧ H a = some (.ins C dx fs) ∧ H b = some (.ins C dy gs) ∧ sp [x, y] H (fun v H' => (∃ k, v = .bl k) ∧ Q v H') (fun _ _ _ => False)
def boolR : XRes HV → Option (XRes HV)
  | .val (.pu (.bl b)) T => some (.val (.pu (.bl b)) T)
  | _ => none
def eqoK (c : Str) (gg : List HV → Tb → Option (XRes HV)) (x y : HV) (T : Tb) : Option (XRes HV) := (insOf T x).bind fun q => (insOf T y).bind fun p => if q.1 = c ∧ p.1 = c then (gg [x, y] T).bind boolR else none
theorem boolR_some {r q : XRes HV} (h : boolR r = some q) : ∃ b T, r = .val (.pu (.bl b)) T ∧ q = .val (.pu (.bl b)) T := by
  unfold boolR at h
  split at h
  · cases h; exact ⟨_, _, rfl, rfl⟩
  · cases h
def xEqo (c : Str) (gg : List HV → Tb → Option (XRes HV)) (f g : FX) : FX := fun env => bX (f env) fun x T1 => bX (g ⟨env.s, T1⟩) fun y T2 => eqoK c gg x y T2
section
variable {X : Cx} {cl : Str → Option Addr} {W : WX} {a b c e : Expr} {es : List Expr} {f g h : FX} {fa : FXA} {ct dt : FXT} {pos : Pos} {gg : List HV → Tb → Option (XRes HV)} {ps : List Str} {k j : Nat}
theorem jx_iso {c : Str} {p q : Pos} (I : IsC X.K X.mg cl c) (ha : PE X a (tX (zx X cl) W f)) (mi : X.mg "isinstance" = none) (hgi : Gl X "isinstance" := by rfl) (hgt : Gl X c := by rfl)
    (hdb : (c == ("__debug__" : Str)) = false := by decide) (he : starEach [a, .Name c q] X.env = (false, eval a X.env) :: starEach [.Name c q] X.env := by rfl)
    (hpl : (backTo pos (starEach [.Name c q] X.env)).any (·.1) = false := by rfl) (he2 : starEach [.Name c q] X.env = (false, eval (.Name c q) X.env) :: starEach [] X.env := by rfl) :
    PE X (.Call (.Name "isinstance" p) [a, .Name c q] [] pos) (tX (zx X cl) W (xIso c f)) := by
  obtain ⟨C, hm, hcl, cls, h1, h2, h3, h4⟩ := I.ex
  refine pe_w (pe_callB call_isi hgi mi PyProof.Rows.boot_isinstance (pa_cons ha (pa_cons (pe_glob (v := .ref C) hgt hm rfl hdb) pa_nil he2) he) (by decide) (by decide) he hpl) fun σ H Q ⟨env, w, r, e, k, h, q⟩ => ?_
  subst e
  refine tX_bind k h q.late fun x T1 v w1 hh g1 k1 hx => ?_
  obtain ⟨⟨c', fs⟩, h5, h6⟩ := Option.bind_eq_some_iff.mp hh
  dsimp only at h6
  split at h6
  · rename_i ec
    subst ec
    cases h6
    obtain ⟨p, C', dx, vs0, rfl, h7, h8⟩ := insOf_ok k1.wf k1.tb hx h5
    rw [show (zx X cl).cl c' = some C from hcl] at h8
    cases h8
    exact ⟨.ref p, .ref C, .ref C, .ref C, true, rfl, .own C, .base (.ins h7 cls h1 h2 h3 h4), kit_self _ C, q _ w1 g1 k1 (.bl _)⟩
  · cases h6
open PySem.Spec PyProof.Rows in
theorem op_eqo {C f : Addr} {fd : FuncData} {sp : Sp} (F : FnOk X.prog X.w X.K X.mg X.base (L2.CX X.prog X.w) k f fd ps sp) (hr : Room k X.A)
    (hs : PySem.W.findIn X.K (.ref C) "__eq__" = some (some (.ref f))) (hf : PySem.W.isFn X.K (.ref f) = true) (hb : Binds X.K fd ps []) : OpR X (compareOp .Eq) (rEqO C sp) := by
  intro pins s σ H x y u v Q I rx ry d
  obtain ⟨a, b, dx, dy, fs, gs, rfl, rfl, ha, hb', hsp⟩ := d
  cases rx
  cases ry
  show wpAny (model X.prog X.w) X.A (richCompare .Eq (.ref a) (.ref b)) (EP X pins σ Q) X.xe s
  obtain ⟨mA, J, _⟩ := ins_get I.hok ha
  obtain ⟨mB, J', _⟩ := ins_get I.hok hb'
  obtain ⟨od, J, _⟩ := J.look
  obtain ⟨od', J', _⟩ := J'.look
  obtain ⟨m, hF⟩ := I.fr
  refine PySem.W.cmp_K (op := .Eq) (tb := .ref C) hr.units0 hF I.ok.mod.kin J J'.type (by simp [PySem.W.notFirst]) hs hf ?_
  have hl := F.len _ _ _ _ hsp
  have r2 : Vals [V.ref a, V.ref b] [Value.ref a, Value.ref b] := .cons rfl (.cons rfl .nil)
  refine wpAny_call (codeAny_mono (F.run X.A X.stack s H ⟨[.ref a, .ref b], []⟩ [.ref a, .ref b] [.ref a, .ref b] _ _ hr I.env0 (by
    have := hb s [.ref a, .ref b] I.kIn (by simpa using hl)
    simpa using this) r2 hsp) fun r s' hq => ?_)
  cases r with
  | error e =>
    obtain ⟨_, _, _, _, _, _, _, _, _, _, _, _, z⟩ := hq
    exact z.elim
  | ok fl =>
    cases fl with
    | ret w =>
      obtain ⟨z, H', I', rz, ⟨kb, ez⟩, ex⟩ := I.after hq
      subst ez
      cases rz
      exact ⟨.bl kb, H', I', rfl, ex⟩
    | next => exact False.elim hq
    | brk => exact False.elim hq
    | cont => exact False.elim hq
theorem xEqo_rd {C : Addr} {Z : Zc} {c' : Str} (hcl : Z.cl c' = some C) {σ : L2.St} {H : Hp} {Q : VK} (hh : tX Z W (xEqo c' gg f g) σ H Q) : tOp (rEqO C (spX Z gg)) (tX Z W f) (tX Z W g) σ H Q := by
  obtain ⟨env, w, r, e, k, h, q⟩ := hh
  subst e
  show tX Z W f σ w.H _
  refine tX_bind k h q.late fun x T1 v w1 h1 g1 k1 hx => ?_
  refine tX_bind k1 h1 (q.late.mono g1) fun y T2 u w2 h2 g2 k2 hy => ?_
  unfold eqoK at h2
  obtain ⟨⟨c1, fs⟩, h3, h5⟩ := Option.bind_eq_some_iff.mp h2
  obtain ⟨⟨c2, gs⟩, h4, h6⟩ := Option.bind_eq_some_iff.mp h5
  dsimp only at h6
  split at h6
  · rename_i hc
    obtain ⟨rfl, rfl⟩ := hc
    have hx2 := hx.mono g2.n g2.m
    obtain ⟨pa, C1, dx, vs1, rfl, e1, e2⟩ := insOf_ok k2.wf k2.tb hx2 h3
    obtain ⟨pb, C2, dy, vs2, rfl, e3, e4⟩ := insOf_ok k2.wf k2.tb hy h4
    rw [hcl] at e2 e4
    cases e2
    cases e4
    obtain ⟨r0, hg, h7⟩ := Option.bind_eq_some_iff.mp h6
    obtain ⟨b, T', rfl, rfl⟩ := boolR_some h7
    · refine ⟨pa, pb, dx, dy, _, _, rfl, rfl, e1, e3, ?_⟩
      exact spX_at (W := fun _ _ _ _ => False) k2 (xs := [x, y]) ⟨hx2, hy, trivial⟩ hg fun v w' g' k' hv => ⟨⟨b, rp_val (d := .bl b) rfl hv⟩, q v w' ((g1.trans g2).trans g') k' hv⟩
  · cases h6
theorem jx_eqo {c' : Str} (M : MeX X.prog X.w X.K X.mg X.base cl k c' "__eq__" ps gg) (hr : Room j X.A) (ha : PE X a (tX (zx X cl) W f)) (hb : PE X b (tX (zx X cl) W g)) (hkj : k ≤ j := by decide) (hm : behindInMarks .Eq b = false := by first | exact nomark _ | rfl) : PE X (.Compare a [.Eq] [b] pos) (tX (zx X cl) W (xEqo c' gg f g)) := by
  obtain ⟨C, fI, fd, c1, me, F, hcl, hbi⟩ := M.ex
  exact pe_w (pe_cmpR (op_eqo F (hr.mono hkj) me.at_ me.fn hbi) ha hb hm) fun _ _ _ hh => xEqo_rd hcl hh
end
section
variable {c : Str} {f g : FX} {gg : List HV → Tb → Option (XRes HV)} {env : Ev}
@[simp] theorem xIso_eq : xIso c f env = (f env).bind (kX (isoX c)) := rfl
@[simp] theorem xEqo_eq : xEqo c gg f g env = (f env).bind (kX fun x T1 => (g ⟨env.s, T1⟩).bind (kX fun y T2 => eqoK c gg x y T2)) := rfl
end
/-! ### list + list, a new list of the table -/
def catM (T : Tb) : HV → Option (List HV)
  | .pu (.lst ds) => some (ds.map .pu)
  | .pu _ => none
  | .ob k => match T[k]? with
    | some (some (.lst xs)) => some xs
    | _ => none
theorem HvsOk.pus {Z : Zc} {w : Wd} : ∀ {vs : List V} {ds : List D}, RpL Z w.N vs ds → HvsOk Z w vs (ds.map .pu)
  | _, _, .nil => trivial
  | _, _, .cons h r => ⟨h, HvsOk.pus r⟩
theorem catM_ok {Z : Zc} {T : Tb} {w : Wd} (hw : Wf w) (t : TbOk Z T w) {v : V} {x : HV} {xs : List HV} (hx : HvOk Z w v x) (h : catM T x = some xs) : ∃ p vs, v = .ref p ∧ w.H p = some (.lst vs) ∧ HvsOk Z w vs xs := by
  cases x with
  | pu d =>
    cases d with
    | lst ds =>
      cases h
      cases hx with
      | lst h1 h2 => exact ⟨_, _, rfl, hw.nh _ _ h1, HvsOk.pus h2⟩
    | _ => cases h
  | ob k =>
    unfold catM at h
    dsimp only at h
    split at h
    · rename_i zs ej
      cases h
      obtain ⟨a, rfl, h1⟩ := hx
      obtain ⟨a', h2, h3, vs, h4, h5⟩ := t.at_ k _ ej
      rw [h1] at h2
      cases h2
      exact ⟨a, vs, rfl, h4, h5⟩
    · cases h
def catK (x y : HV) (T : Tb) : Option (XRes HV) := (catM T x).bind fun xs => (catM T y).bind fun ys => if xs.length + ys.length ≤ lim then some (.val (.ob T.length) (T ++ [some (.lst (xs ++ ys))])) else none
def xCat (f g : FX) : FX := fun env => bX (f env) fun x T1 => bX (g ⟨env.s, T1⟩) fun y T2 => catK x y T2
@[simp] theorem xCat_eq {f g : FX} {env : Ev} : xCat f g env = (f env).bind (kX fun x T1 => (g ⟨env.s, T1⟩).bind (kX fun y T2 => catK x y T2)) := rfl
theorem HvsOk.cat {Z : Zc} {w : Wd} : ∀ {vs us : List V} {xs ys : List HV}, HvsOk Z w vs xs → HvsOk Z w us ys → HvsOk Z w (vs ++ us) (xs ++ ys)
  | [], _, [], _, _, s => s
  | _ :: _, _, _ :: _, _, ⟨h, r⟩, s => ⟨h, HvsOk.cat r s⟩
  | [], _, _ :: _, _, h, _ => h.elim
  | _ :: _, _, [], _, h, _ => h.elim
theorem jx_cat {X : Cx} {cl : Str → Option Addr} {W : WX} {a b : Expr} {f g : FX} {pos : Pos} (ha : PE X a (tX (zx X cl) W f)) (hb : PE X b (tX (zx X cl) W g)) : PE X (.BinOp a .Add b pos) (tX (zx X cl) W (xCat f g)) := by
  refine pe_w (pe_op op_cat ha hb) fun σ H Q ⟨env, w, r, e, k, h, q⟩ => ?_
  subst e
  show tX (zx X cl) W f σ w.H _
  refine tX_bind k h q.late fun x T1 v w1 h1 g1 k1 hx => ?_
  refine tX_bind k1 h1 (q.late.mono g1) fun y T2 u w2 h2 g2 k2 hy => ?_
  unfold catK at h2
  obtain ⟨xs, h3, h2⟩ := Option.bind_eq_some_iff.mp h2
  obtain ⟨ys, h4, h2⟩ := Option.bind_eq_some_iff.mp h2
  split at h2
  · rename_i hl
    cases h2
    obtain ⟨pa, vs, rfl, e1, e2⟩ := catM_ok k2.wf k2.tb (hx.mono g2.n g2.m) h3
    obtain ⟨pb, us, rfl, e3, e4⟩ := catM_ok k2.wf k2.tb hy h4
    have hn := e2.cat e4
    refine ⟨pa, pb, vs, us, rfl, rfl, e1, e3, lim_le (by rw [e2.length, e4.length]; exact hl), fun np hnp => ?_⟩
    obtain ⟨w3, e5, g3, k3, hx3⟩ := new_ok k2 (o := .lst (vs ++ us)) (M := .lst (xs ++ ys)) hnp ⟨vs ++ us, upd_same, HvsOk.mono (w := w2) (w' := ⟨w2.N, w2.B, upd w2.H np (.lst (vs ++ us)), w2.m⟩) (.refl _) (List.prefix_refl _) hn⟩
    rw [← e5]
    exact q _ w3 ((g1.trans g2).trans g3) k3 hx3
  · cases h2
end Vf
namespace Lw
open PySem L2 Vf
abbrev CS_frames : List Str := ["Picture"]
abbrev CS_objects : List Str := ["Picture"]
abbrev CS_parted : List Str := ["Picture"]
abbrev CS_statics : List Str := ["Picture"]
abbrev CS_watched : List Str := ["Picture"]
abbrev N_law_number : List Str := ["digit"]
noncomputable def F_law_number : FS := (sSeq (sIf (sBl (sOp oGt (sOp oMod (sB intB (sCons (sVar 0) sNil)) (sLit (.int 4))) (sLit (.int 0))))
  (sRet (sOp oAdd (sOp oMulX (sLit (.int 2)) (sOp oSub (sOp oMod (sOp oFd (sB intB (sCons (sVar 0) sNil)) (sLit (.int 4))) (sLit (.int 24))) (sLit (.int 6)))) (sLit (.int 1))))
  sNx) (sRet (sOp oAdd (sOp oMulX (sLit (.int 2)) (sOp oSub (sOp oMod (sB intB (sCons (sOp oMulX (sOp oFd (sB intB (sCons (sVar 0) sNil)) (sLit (.int 4))) (sLit (.int 2654435761))) sNil)) (sLit (.int 4294967296))) (sLit (.int 2147483648)))) (sLit (.int 1)))))
noncomputable def g_law_number : List TD → Option TD := gF 1 N_law_number.length F_law_number
theorem len_law_number : ∀ rs r, g_law_number rs = some r → rs.length = 1 := gF_len
theorem okt_law_number : ∀ rs r, g_law_number rs = some r → okT r.1 = true := gF_ok
theorem sem_law_number : ∀ rs r, rs.all (fun r => okT r.1) = true → g_law_number rs = some r → (F_law_number (env0 N_law_number.length rs)).bind fin = some r := gF_sem
abbrev N_law_word : List Str := ["digit", "many", "thick", "rest"]
noncomputable def F_law_word : FS := (sSeq (sSet 3 (sOp oFd (sB intB (sCons (sVar 0) sNil)) (sLit (.int 8)))) (sSeq (sIf (sAndT (sBl (sOp oLt (sOp oMod (sB intB (sCons (sVar 0) sNil)) (sLit (.int 8))) (sVar 2))) (sBl (sOp oGt (sVar 1) (sLit (.int 0)))))
  (sRet (sOp oAdd (sOp oMulX (sLit (.int 2)) (sOp oMod (sB intB (sCons (sVar 3) sNil)) (sVar 1))) (sLit (.int 2))))
  sNx) (sSeq (sIf (sBl (sOp oEq (sOp oMod (sB intB (sCons (sVar 0) sNil)) (sLit (.int 8))) (sVar 2)))
  (sRet (sLit (.int 0)))
  sNx) (sRet (sCall g_law_number (sCons (sVar 3) sNil))))))
noncomputable def g_law_word : List TD → Option TD := gF 3 N_law_word.length F_law_word
theorem len_law_word : ∀ rs r, g_law_word rs = some r → rs.length = 3 := gF_len
theorem okt_law_word : ∀ rs r, g_law_word rs = some r → okT r.1 = true := gF_ok
theorem sem_law_word : ∀ rs r, rs.all (fun r => okT r.1) = true → g_law_word rs = some r → (F_law_word (env0 N_law_word.length rs)).bind fin = some r := gF_sem
abbrev N_law_any : List Str := ["digit", "many", "thick", "rest", "far"]
noncomputable def F_law_any : FS := (sSeq (sSet 3 (sOp oFd (sB intB (sCons (sVar 0) sNil)) (sLit (.int 4)))) (sSeq (sSet 4 (sOp oMulX (sLit (.int 2)) (sOp oMod (sOp oFd (sB intB (sCons (sVar 3) sNil)) (sLit (.int 8))) (sLit (.int 1000))))) (sSeq (sIf (sOrT (sBl (sOp oLt (sVar 2) (sLit (.int 6)))) (sBl (sOp oEq (sOp oMod (sB intB (sCons (sVar 0) sNil)) (sLit (.int 4))) (sLit (.int 0)))))
  (sRet (sCall g_law_word (sCons (sVar 3) (sCons (sVar 1) (sCons (sOp oMod (sB intB (sCons (sVar 2) sNil)) (sLit (.int 6))) sNil)))))
  sNx) (sRet (sOp oIx (sL (sLd (sCons (sOp oAdd (sOp oAdd (sOp oMulX (sLit (.int 2)) (sVar 1)) (sLit (.int 2))) (sVar 4)) (sCons (sOp oSub (sUn oNeg (sLit (.int 2))) (sVar 4)) (sCons (sOp oAdd (sLit (.int 4294967297)) (sVar 4)) sNil))))) (sOp oSub (sOp oMod (sB intB (sCons (sVar 0) sNil)) (sLit (.int 4))) (sLit (.int 1))))))))
noncomputable def g_law_any : List TD → Option TD := gF 3 N_law_any.length F_law_any
theorem len_law_any : ∀ rs r, g_law_any rs = some r → rs.length = 3 := gF_len
theorem okt_law_any : ∀ rs r, g_law_any rs = some r → okT r.1 = true := gF_ok
theorem sem_law_any : ∀ rs r, rs.all (fun r => okT r.1) = true → g_law_any rs = some r → (F_law_any (env0 N_law_any.length rs)).bind fin = some r := gF_sem
abbrev N_law_name : List Str := ["digit", "odd"]
noncomputable def F_law_name : FS := (sSeq (sIf (sTru (sVar 1))
  (sRet (sOp oIx (sL (sLd (sCons (sLit (.str "")) (sCons (sLit (.str "num")) (sCons (sLit (.str "Two words")) (sCons (sLit (.str "node")) (sCons (sLit (.str "-")) (sCons (sLit (.str "abcdefgh123456789")) (sCons (sLit (.str "1")) (sCons (sLit (.str "node ")) sNil)))))))))) (sVar 0)))
  sNx) (sRet (sOp oIx (sL (sLd (sCons (sLit (.str "node")) (sCons (sLit (.str "node2")) (sCons (sLit (.str "n")) (sCons (sLit (.str "abcdefgh12345678")) (sCons (sLit (.str "abcdefgh12345679")) (sCons (sLit (.str "bbcdefgh12345678")) (sCons (sLit (.str "row7")) (sCons (sLit (.str "main")) sNil)))))))))) (sVar 0))))
noncomputable def g_law_name : List TD → Option TD := gF 2 N_law_name.length F_law_name
theorem len_law_name : ∀ rs r, g_law_name rs = some r → rs.length = 2 := gF_len
theorem okt_law_name : ∀ rs r, g_law_name rs = some r → okT r.1 = true := gF_ok
theorem sem_law_name : ∀ rs r, rs.all (fun r => okT r.1) = true → g_law_name rs = some r → (F_law_name (env0 N_law_name.length rs)).bind fin = some r := gF_sem
abbrev N_law_objects : List Str := ["script", "at", "many", "thick", "objects", "k", "row", "words", "digit", "size"]
noncomputable def B_law_objects_1 : FS := (sSeq (sSet 6 (sCall g_law_digits (sCons (sCall g_law_cell (sCons (sVar 0) (sCons (sOp oAdd (sVar 1) (sVar 5)) sNil))) (sCons (sOp oAdd (sL (sLd (sCons (sLit (.int 8)) (sCons (sLit (.int 15)) sNil)))) (sOp oMulX (sL (sLd (sCons (sLit (.int 549755813888)) sNil))) (sLit (.int 6)))) sNil)))) (sSeq (sSet 7 (sL (sLc (sItr (sSl (sVar 6) (sPt (sLit (.int 2))) sNoP)) (setV 8) sYes (sCall g_law_any (sCons (sVar 8) (sCons (sVar 2) (sCons (sVar 3) sNil)))) [8]))) (sIf (sAndT (sBl (sOp oGt (sVar 5) (sLit (.int 0)))) (sBl (sOp oGt (sOp oIx (sVar 6) (sLit (.int 1))) (sLit (.int 11)))))
  (sApp 4 (sL (sLd (sCons (sOp oIx (sOp oIx (sVar 4) (sOp oSub (sVar 5) (sLit (.int 1)))) (sLit (.int 0))) (sCons (sL (sLb listB (sCons (sOp oIx (sOp oIx (sVar 4) (sOp oSub (sVar 5) (sLit (.int 1)))) (sLit (.int 1))) sNil))) sNil)))))
  (sSeq (sSet 9 (sOp oIx (sL (sLd (sCons (sLit (.int 1)) (sCons (sLit (.int 2)) (sCons (sLit (.int 3)) (sCons (sLit (.int 0)) (sCons (sLit (.int 2)) (sCons (sLit (.int 4)) (sCons (sLit (.int 1)) (sCons (sLit (.int 3)) (sCons (sLit (.int 5)) (sCons (sLit (.int 6)) (sCons (sLit (.int 2)) (sCons (sLit (.int 1)) (sCons (sLit (.int 2)) (sCons (sLit (.int 0)) (sCons (sLit (.int 1)) sNil))))))))))))))))) (sOp oIx (sVar 6) (sLit (.int 1))))) (sApp 4 (sL (sLd (sCons (sCall g_law_name (sCons (sOp oIx (sVar 6) (sLit (.int 0))) (sCons (sOp oGt (sVar 3) (sLit (.int 5))) sNil))) (sCons (sSl (sVar 7) sNoP (sPt (sVar 9))) sNil)))))))))
noncomputable def F_law_objects : FS := (sSeq (sOwn 4 (sLd sNil)) (sSeq (sFor (sR1 (sVar 2)) (setV 5)
  B_law_objects_1) (sRet (sVar 4))))
noncomputable def g_law_objects : List TD → Option TD := gF 4 N_law_objects.length F_law_objects
theorem len_law_objects : ∀ rs r, g_law_objects rs = some r → rs.length = 4 := gF_len
theorem okt_law_objects : ∀ rs r, g_law_objects rs = some r → okT r.1 = true := gF_ok
theorem sem_law_objects : ∀ rs r, rs.all (fun r => okT r.1) = true → g_law_objects rs = some r → (F_law_objects (env0 N_law_objects.length rs)).bind fin = some r := gF_sem
abbrev N_law_list : List Str := ["cell", "count", "odd", "row", "digits", "digit"]
noncomputable def F_law_list : FS := (sSeq (sSet 3 (sCall g_law_digits (sCons (sVar 0) (sCons (sOp oAdd (sL (sLd (sCons (sLit (.int 8)) sNil))) (sOp oMulX (sL (sLd (sCons (sLit (.int 549755813888)) sNil))) (sLit (.int 6)))) sNil)))) (sSeq (sSet 4 (sSl (sVar 3) (sPt (sLit (.int 1))) (sPt (sOp oAdd (sLit (.int 1)) (sOp oIx (sL (sLd (sCons (sLit (.int 1)) (sCons (sLit (.int 2)) (sCons (sLit (.int 0)) (sCons (sLit (.int 3)) (sCons (sLit (.int 1)) (sCons (sLit (.int 4)) (sCons (sLit (.int 2)) (sCons (sLit (.int 6)) sNil)))))))))) (sOp oIx (sVar 3) (sLit (.int 0)))))))) (sSeq (sIf (sTru (sVar 2))
  (sRet (sL (sLc (sItr (sVar 4)) (setV 5) sYes (sCall g_law_any (sCons (sVar 5) (sCons (sVar 1) (sCons (sLit (.int 9)) sNil)))) [5])))
  sNx) (sRet (sL (sLc (sItr (sVar 4)) (setV 5) (sBl (sOp oGt (sVar 1) (sLit (.int 0)))) (sOp oAdd (sOp oMulX (sLit (.int 2)) (sOp oMod (sB intB (sCons (sVar 5) sNil)) (sVar 1))) (sLit (.int 2))) [5]))))))
noncomputable def g_law_list : List TD → Option TD := gF 3 N_law_list.length F_law_list
theorem len_law_list : ∀ rs r, g_law_list rs = some r → rs.length = 3 := gF_len
theorem okt_law_list : ∀ rs r, g_law_list rs = some r → okT r.1 = true := gF_ok
theorem sem_law_list : ∀ rs r, rs.all (fun r => okT r.1) = true → g_law_list rs = some r → (F_law_list (env0 N_law_list.length rs)).bind fin = some r := gF_sem
abbrev N_law_parts : List Str := ["script", "head", "many", "odd", "thick", "objects", "frames", "k", "row", "words", "digit", "slots", "place", "statics", "lists"]
noncomputable def B_law_parts_1 : FS := (sSeq (sSet 8 (sCall g_law_digits (sCons (sCall g_law_cell (sCons (sVar 0) (sCons (sOp oAdd (sLit (.int 2)) (sVar 7)) sNil))) (sCons (sOp oAdd (sL (sLd (sCons (sLit (.int 6)) (sCons (sLit (.int 200)) (sCons (sLit (.int 6)) (sCons (sLit (.int 6)) sNil)))))) (sOp oMulX (sL (sLd (sCons (sLit (.int 549755813888)) sNil))) (sLit (.int 10)))) sNil)))) (sSeq (sSet 9 (sL (sLc (sItr (sSl (sVar 8) (sPt (sLit (.int 4))) sNoP)) (setV 10) sYes (sCall g_law_any (sCons (sVar 10) (sCons (sVar 2) (sCons (sVar 4) sNil)))) [10]))) (sSeq (sSet 11 (sOp oIx (sL (sLd (sCons (sLit (.int 2)) (sCons (sLit (.int 1)) (sCons (sLit (.int 3)) (sCons (sLit (.int 0)) (sCons (sLit (.int 5)) (sCons (sLit (.int 4)) sNil)))))))) (sOp oIx (sVar 8) (sLit (.int 2))))) (sSeq (sSet 12 (sOp oIx (sL (sLd (sCons (sOp oIx (sVar 8) (sLit (.int 1))) (sCons (sOp oSub (sLit (.int 300)) (sOp oMulX (sLit (.int 7)) (sOp oIx (sVar 8) (sLit (.int 1))))) sNil)))) (sB intB (sCons (sVar 3) sNil)))) (sApp 6 (sL (sLd (sCons (sCall g_law_name (sCons (sOp oIx (sVar 8) (sLit (.int 0))) (sCons (sVar 3) sNil))) (sCons (sVar 12) (sCons (sSl (sVar 9) sNoP (sPt (sVar 11))) (sCons (sSl (sVar 9) (sPt (sLit (.int 5))) (sPt (sOp oAdd (sLit (.int 5)) (sOp oIx (sL (sLd (sCons (sLit (.int 1)) (sCons (sLit (.int 0)) (sCons (sLit (.int 2)) (sCons (sLit (.int 3)) (sCons (sLit (.int 1)) (sCons (sLit (.int 5)) sNil)))))))) (sOp oIx (sVar 8) (sLit (.int 3))))))) sNil)))))))))))
noncomputable def F_law_parts : FS := (sSeq (sSet 1 (sCall g_law_digits (sCons (sCall g_law_cell (sCons (sVar 0) (sCons (sLit (.int 0)) sNil))) (sCons (sL (sLd (sCons (sLit (.int 15)) (sCons (sLit (.int 6)) (sCons (sLit (.int 4)) (sCons (sLit (.int 7)) (sCons (sLit (.int 4)) sNil))))))) sNil)))) (sSeq (sSet 2 (sOp oIx (sL (sLd (sCons (sLit (.int 5)) (sCons (sLit (.int 8)) (sCons (sLit (.int 3)) (sCons (sLit (.int 12)) (sCons (sLit (.int 6)) (sCons (sLit (.int 14)) (sCons (sLit (.int 9)) (sCons (sLit (.int 1)) (sCons (sLit (.int 7)) (sCons (sLit (.int 10)) (sCons (sLit (.int 4)) (sCons (sLit (.int 13)) (sCons (sLit (.int 2)) (sCons (sLit (.int 11)) (sCons (sLit (.int 0)) sNil))))))))))))))))) (sOp oIx (sVar 1) (sLit (.int 0))))) (sSeq (sSet 3 (sOp oEq (sOp oIx (sVar 1) (sLit (.int 4))) (sLit (.int 3)))) (sSeq (sSet 4 (sOp oAdd (sOp oIx (sL (sLd (sCons (sLit (.int 3)) (sCons (sLit (.int 4)) (sCons (sLit (.int 2)) (sCons (sLit (.int 5)) sNil)))))) (sOp oIx (sVar 1) (sLit (.int 2)))) (sOp oMulX (sLit (.int 6)) (sB intB (sCons (sVar 3) sNil))))) (sSeq (sSet 5 (sCall g_law_objects (sCons (sVar 0) (sCons (sLit (.int 10)) (sCons (sVar 2) (sCons (sVar 4) sNil)))))) (sSeq (sOwn 6 (sLd sNil)) (sSeq (sFor (sR1 (sOp oIx (sL (sLd (sCons (sLit (.int 2)) (sCons (sLit (.int 1)) (sCons (sLit (.int 3)) (sCons (sLit (.int 4)) (sCons (sLit (.int 5)) (sCons (sLit (.int 0)) sNil)))))))) (sOp oIx (sVar 1) (sLit (.int 1))))) (setV 7)
  B_law_parts_1) (sSeq (sSet 8 (sCall g_law_digits (sCons (sCall g_law_cell (sCons (sVar 0) (sCons (sLit (.int 1)) sNil))) (sCons (sOp oMulX (sL (sLd (sCons (sLit (.int 549755813888)) sNil))) (sLit (.int 6))) sNil)))) (sSeq (sSet 13 (sL (sLc (sItr (sSl (sVar 8) sNoP (sPt (sOp oIx (sVar 1) (sLit (.int 3)))))) (setV 10) sYes (sCall g_law_any (sCons (sVar 10) (sCons (sVar 2) (sCons (sVar 4) sNil)))) [10]))) (sSeq (sSet 14 (sL (sLd (sCons (sCall g_law_list (sCons (sCall g_law_cell (sCons (sVar 0) (sCons (sLit (.int 8)) sNil))) (sCons (sVar 2) (sCons (sVar 3) sNil)))) (sCons (sCall g_law_list (sCons (sCall g_law_cell (sCons (sVar 0) (sCons (sLit (.int 9)) sNil))) (sCons (sVar 2) (sCons (sVar 3) sNil)))) sNil))))) (sRet (sL (sLd (sCons (sVar 13) (sCons (sOp oMulX (sVar 6) (sOp oIx (sL (sLd (sCons (sLit (.int 1)) (sCons (sLit (.int 9)) sNil)))) (sB intB (sCons (sVar 3) sNil)))) (sCons (sOp oIx (sVar 14) (sLit (.int 0))) (sCons (sOp oIx (sVar 14) (sLit (.int 1))) (sCons (sVar 5) sNil))))))))))))))))))
noncomputable def g_law_parts : List TD → Option TD := gF 1 N_law_parts.length F_law_parts
theorem len_law_parts : ∀ rs r, g_law_parts rs = some r → rs.length = 1 := gF_len
theorem okt_law_parts : ∀ rs r, g_law_parts rs = some r → okT r.1 = true := gF_ok
theorem sem_law_parts : ∀ rs r, rs.all (fun r => okT r.1) = true → g_law_parts rs = some r → (F_law_parts (env0 N_law_parts.length rs)).bind fin = some r := gF_sem
abbrev N_law_frozen : List Str := ["parts", "frames", "frame", "objects", "thing"]
noncomputable def F_law_frozen : FS := (sSeq (sSet 1 (sL (sLc (sItr (sOp oIx (sVar 0) (sLit (.int 1)))) (setV 2) sYes (sTp (sCons (sOp oIx (sVar 2) (sLit (.int 0))) (sCons (sOp oIx (sVar 2) (sLit (.int 1))) (sCons (sB tupB (sCons (sOp oIx (sVar 2) (sLit (.int 2))) sNil)) (sCons (sB tupB (sCons (sOp oIx (sVar 2) (sLit (.int 3))) sNil)) sNil))))) [2]))) (sSeq (sSet 3 (sL (sLc (sItr (sOp oIx (sVar 0) (sLit (.int 4)))) (setV 4) sYes (sTp (sCons (sOp oIx (sVar 4) (sLit (.int 0))) (sCons (sB tupB (sCons (sOp oIx (sVar 4) (sLit (.int 1))) sNil)) sNil))) [4]))) (sRet (sTp (sCons (sB tupB (sCons (sOp oIx (sVar 0) (sLit (.int 0))) sNil)) (sCons (sB tupB (sCons (sVar 1) sNil)) (sCons (sB tupB (sCons (sOp oIx (sVar 0) (sLit (.int 2))) sNil)) (sCons (sB tupB (sCons (sOp oIx (sVar 0) (sLit (.int 3))) sNil)) (sCons (sB tupB (sCons (sVar 3) sNil)) sNil)))))))))
noncomputable def g_law_frozen : List TD → Option TD := gF 1 N_law_frozen.length F_law_frozen
theorem len_law_frozen : ∀ rs r, g_law_frozen rs = some r → rs.length = 1 := gF_len
theorem okt_law_frozen : ∀ rs r, g_law_frozen rs = some r → okT r.1 = true := gF_ok
theorem sem_law_frozen : ∀ rs r, rs.all (fun r => okT r.1) = true → g_law_frozen rs = some r → (F_law_frozen (env0 N_law_frozen.length rs)).bind fin = some r := gF_sem
abbrev N_law_listed : List Str := ["parts", "frames", "frame", "thing"]
noncomputable def F_law_listed : SX := (zSeq (zSet 1 (xLc (xIx (xH (hVar 0)) (xE (sLit (.int 1)))) (setHS 2) xYes (xLst (xCons (xIx (xH (hVar 2)) (xE (sLit (.int 0)))) (xCons (xIx (xH (hVar 2)) (xE (sLit (.int 1)))) (xCons (xList (xIx (xH (hVar 2)) (xE (sLit (.int 2))))) (xCons (xList (xIx (xH (hVar 2)) (xE (sLit (.int 3))))) xNil))))) [2])) (zRet (xLst (xCons (xList (xIx (xH (hVar 0)) (xE (sLit (.int 0))))) (xCons (xH (hVar 1)) (xCons (xList (xIx (xH (hVar 0)) (xE (sLit (.int 2))))) (xCons (xList (xIx (xH (hVar 0)) (xE (sLit (.int 3))))) (xCons (xLc (xIx (xH (hVar 0)) (xE (sLit (.int 4)))) (setHS 3) xYes (xLst (xCons (xIx (xH (hVar 3)) (xE (sLit (.int 0)))) (xCons (xList (xIx (xH (hVar 3)) (xE (sLit (.int 1))))) xNil))) [3]) xNil))))))))
noncomputable def g_law_listed : List HV → Tb → Option (XRes HV) := gFX 1 N_law_listed.length F_law_listed
abbrev N_frozen : List Str := ["value", "part"]
noncomputable def F_frozen (gg : List TD → Option TD) : FS := (sSeq (sIf (sTru (sIsi2 "list" "tuple" (sVar 0)))
  (sRet (sB tupB (sCons (sL (sLc (sItr (sVar 0)) (setV 1) sYes (sCall gg (sCons (sVar 1) sNil)) [1])) sNil)))
  sNx) (sRet (sVar 0)))
noncomputable def gN_frozen : Nat → List TD → Option TD
  | 0 => fun _ => none
  | n + 1 => gF 1 N_frozen.length (F_frozen (gN_frozen n))
noncomputable def g_frozen : List TD → Option TD := gN_frozen 9
abbrev N_Picture_init : List Str := ["self", "statics", "frames", "watched", "parted", "objects"]
noncomputable def F_Picture_init : SX := (zSeq (zSto CS_statics "statics" (xH (hVar 0)) (xCallP g_frozen (xCons (xH (hVar 1)) xNil))) (zSeq (zSto CS_frames "frames" (xH (hVar 0)) (xCallP g_frozen (xCons (xH (hVar 2)) xNil))) (zSeq (zSto CS_watched "watched" (xH (hVar 0)) (xCallP g_frozen (xCons (xH (hVar 3)) xNil))) (zSeq (zSto CS_parted "parted" (xH (hVar 0)) (xCallP g_frozen (xCons (xH (hVar 4)) xNil))) (zSto CS_objects "objects" (xH (hVar 0)) (xCallP g_frozen (xCons (xH (hVar 5)) xNil)))))))
noncomputable def g_Picture_init : List HV → Tb → Option (XRes HV) := gFX 6 N_Picture_init.length F_Picture_init
abbrev N_law_numbers : List Str := ["told", "due", "k"]
noncomputable def B_law_numbers_1 : FS := (sIf (sOrT (sNotT (sTru (sCall g_law_whole (sCons (sOp oIx (sVar 0) (sVar 2)) sNil)))) (sBl (sOp oNe (sOp oIx (sVar 0) (sVar 2)) (sOp oIx (sVar 1) (sVar 2)))))
  (sRet (sLit (.bl false)))
  sNx)
noncomputable def F_law_numbers : FS := (sSeq (sIf (sOrT (sNotT (sTru (sIsi "tuple" (sVar 0)))) (sBl (sOp oNe (sB lenB (sCons (sVar 0) sNil)) (sB lenB (sCons (sVar 1) sNil)))))
  (sRet (sLit (.bl false)))
  sNx) (sSeq (sFor (sR1 (sB lenB (sCons (sVar 1) sNil))) (setV 2)
  B_law_numbers_1) (sRet (sLit (.bl true)))))
noncomputable def g_law_numbers : List TD → Option TD := gF 2 N_law_numbers.length F_law_numbers
theorem len_law_numbers : ∀ rs r, g_law_numbers rs = some r → rs.length = 2 := gF_len
theorem okt_law_numbers : ∀ rs r, g_law_numbers rs = some r → okT r.1 = true := gF_ok
theorem sem_law_numbers : ∀ rs r, rs.all (fun r => okT r.1) = true → g_law_numbers rs = some r → (F_law_numbers (env0 N_law_numbers.length rs)).bind fin = some r := gF_sem
abbrev N_law_rows : List Str := ["parts", "rows", "frame"]
noncomputable def B_law_rows_1 : FS := (sSet 1 (sOp oAdd (sVar 1) (sL (sLd (sCons (sOp oIx (sVar 2) (sLit (.int 2))) (sCons (sOp oIx (sVar 2) (sLit (.int 3))) sNil))))))
noncomputable def F_law_rows : FS := (sSeq (sSet 1 (sL (sLd (sCons (sOp oIx (sVar 0) (sLit (.int 0))) sNil)))) (sSeq (sFor (sIt (sOp oIx (sVar 0) (sLit (.int 1)))) (setV 2)
  B_law_rows_1) (sRet (sOp oAdd (sVar 1) (sL (sLd (sCons (sOp oIx (sVar 0) (sLit (.int 2))) (sCons (sOp oIx (sVar 0) (sLit (.int 3))) sNil))))))))
noncomputable def g_law_rows : List TD → Option TD := gF 1 N_law_rows.length F_law_rows
theorem len_law_rows : ∀ rs r, g_law_rows rs = some r → rs.length = 1 := gF_len
theorem okt_law_rows : ∀ rs r, g_law_rows rs = some r → okT r.1 = true := gF_ok
theorem sem_law_rows : ∀ rs r, rs.all (fun r => okT r.1) = true → g_law_rows rs = some r → (F_law_rows (env0 N_law_rows.length rs)).bind fin = some r := gF_sem
abbrev N_law_things : List Str := ["told", "due", "k"]
noncomputable def B_law_things_1 : FS := (sSeq (sIf (sOrT (sNotT (sTru (sIsi "tuple" (sOp oIx (sVar 0) (sVar 2))))) (sOrT (sBl (sOp oNe (sB lenB (sCons (sOp oIx (sVar 0) (sVar 2)) sNil)) (sLit (.int 2)))) (sNotT (sTru (sIsi "str" (sOp oIx (sOp oIx (sVar 0) (sVar 2)) (sLit (.int 0))))))))
  (sRet (sLit (.bl false)))
  sNx) (sIf (sOrT (sBl (sOp oNe (sOp oIx (sOp oIx (sVar 0) (sVar 2)) (sLit (.int 0))) (sOp oIx (sOp oIx (sVar 1) (sVar 2)) (sLit (.int 0))))) (sNotT (sTru (sCall g_law_numbers (sCons (sOp oIx (sOp oIx (sVar 0) (sVar 2)) (sLit (.int 1))) (sCons (sOp oIx (sOp oIx (sVar 1) (sVar 2)) (sLit (.int 1))) sNil))))))
  (sRet (sLit (.bl false)))
  sNx))
noncomputable def F_law_things : FS := (sSeq (sIf (sOrT (sNotT (sTru (sIsi "tuple" (sVar 0)))) (sBl (sOp oNe (sB lenB (sCons (sVar 0) sNil)) (sB lenB (sCons (sVar 1) sNil)))))
  (sRet (sLit (.bl false)))
  sNx) (sSeq (sFor (sR1 (sB lenB (sCons (sVar 1) sNil))) (setV 2)
  B_law_things_1) (sRet (sLit (.bl true)))))
noncomputable def g_law_things : List TD → Option TD := gF 2 N_law_things.length F_law_things
theorem len_law_things : ∀ rs r, g_law_things rs = some r → rs.length = 2 := gF_len
theorem okt_law_things : ∀ rs r, g_law_things rs = some r → okT r.1 = true := gF_ok
theorem sem_law_things : ∀ rs r, rs.all (fun r => okT r.1) = true → g_law_things rs = some r → (F_law_things (env0 N_law_things.length rs)).bind fin = some r := gF_sem
abbrev N_root_rows : List Str := ["statics", "frames", "watched", "parted", "rows", "_", "slots", "stack"]
noncomputable def B_root_rows_1 : FS := (sExt 4 (sL (sLd (sCons (sVar 6) (sCons (sVar 7) sNil)))))
noncomputable def F_root_rows : FS := (sSeq (sOwn 4 (sLd (sCons (sVar 0) sNil))) (sSeq (sFor (sIt (sVar 1)) (setTup 4 (setCons (setV 5) (setCons (setV 5) (setCons (setV 6) (setCons (setV 7) setNil)))))
  B_root_rows_1) (sSeq (sExt 4 (sL (sLd (sCons (sVar 2) (sCons (sVar 3) sNil))))) (sRet (sB tupB (sCons (sVar 4) sNil))))))
noncomputable def g_root_rows : List TD → Option TD := gF 4 N_root_rows.length F_root_rows
theorem len_root_rows : ∀ rs r, g_root_rows rs = some r → rs.length = 4 := gF_len
theorem okt_root_rows : ∀ rs r, g_root_rows rs = some r → okT r.1 = true := gF_ok
theorem sem_root_rows : ∀ rs r, rs.all (fun r => okT r.1) = true → g_root_rows rs = some r → (F_root_rows (env0 N_root_rows.length rs)).bind fin = some r := gF_sem
abbrev N_Picture_rows : List Str := ["self"]
noncomputable def F_Picture_rows : SX := (zRet (xCallP g_root_rows (xCons (xFld CS_statics "statics" (xH (hVar 0))) (xCons (xFld CS_frames "frames" (xH (hVar 0))) (xCons (xFld CS_watched "watched" (xH (hVar 0))) (xCons (xFld CS_parted "parted" (xH (hVar 0))) xNil))))))
noncomputable def g_Picture_rows : List HV → Tb → Option (XRes HV) := gFX 1 N_Picture_rows.length F_Picture_rows
abbrev N_law_shows : List Str := ["picture", "due", "frames", "k", "frame", "told", "rows"]
noncomputable def B_law_shows_1 : SX := (zSeq (zSet 4 (xE (sOp oIx (sVar 2) (sVar 3)))) (zSeq (zIf (xP (sOrT (sNotT (sTru (sIsi "tuple" (sVar 4)))) (sOrT (sBl (sOp oNe (sB lenB (sCons (sVar 4) sNil)) (sLit (.int 4)))) (sOrT (sNotT (sTru (sIsi "str" (sOp oIx (sVar 4) (sLit (.int 0)))))) (sNotT (sTru (sCall g_law_whole (sCons (sOp oIx (sVar 4) (sLit (.int 1))) sNil))))))))
  (zRet (xE (sLit (.bl false))))
  zNx) (zSeq (zIf (xP (sOrT (sBl (sOp oNe (sOp oIx (sVar 4) (sLit (.int 0))) (sOp oIx (sOp oIx (sOp oIx (sVar 1) (sLit (.int 1))) (sVar 3)) (sLit (.int 0))))) (sBl (sOp oNe (sOp oIx (sVar 4) (sLit (.int 1))) (sOp oIx (sOp oIx (sOp oIx (sVar 1) (sLit (.int 1))) (sVar 3)) (sLit (.int 1)))))))
  (zRet (xE (sLit (.bl false))))
  zNx) (zIf (xP (sOrT (sNotT (sTru (sCall g_law_numbers (sCons (sOp oIx (sVar 4) (sLit (.int 2))) (sCons (sOp oIx (sOp oIx (sOp oIx (sVar 1) (sLit (.int 1))) (sVar 3)) (sLit (.int 2))) sNil))))) (sNotT (sTru (sCall g_law_numbers (sCons (sOp oIx (sVar 4) (sLit (.int 3))) (sCons (sOp oIx (sOp oIx (sOp oIx (sVar 1) (sLit (.int 1))) (sVar 3)) (sLit (.int 3))) sNil)))))))
  (zRet (xE (sLit (.bl false))))
  zNx))))
noncomputable def F_law_shows : SX := (zSeq (zIf (xOrT (xNotT (xTru (xCallP g_law_numbers (xCons (xFld CS_statics "statics" (xH (hVar 0))) (xCons (xE (sOp oIx (sVar 1) (sLit (.int 0)))) xNil))))) (xNotT (xTru (xCallP g_law_numbers (xCons (xFld CS_watched "watched" (xH (hVar 0))) (xCons (xE (sOp oIx (sVar 1) (sLit (.int 2)))) xNil))))))
  (zRet (xE (sLit (.bl false))))
  zNx) (zSeq (zIf (xOrT (xNotT (xTru (xCallP g_law_numbers (xCons (xFld CS_parted "parted" (xH (hVar 0))) (xCons (xE (sOp oIx (sVar 1) (sLit (.int 3)))) xNil))))) (xNotT (xTru (xCallP g_law_things (xCons (xFld CS_objects "objects" (xH (hVar 0))) (xCons (xE (sOp oIx (sVar 1) (sLit (.int 4)))) xNil))))))
  (zRet (xE (sLit (.bl false))))
  zNx) (zSeq (zSet 2 (xFld CS_frames "frames" (xH (hVar 0)))) (zSeq (zIf (xP (sOrT (sNotT (sTru (sIsi "tuple" (sVar 2)))) (sBl (sOp oNe (sB lenB (sCons (sVar 2) sNil)) (sB lenB (sCons (sOp oIx (sVar 1) (sLit (.int 1))) sNil))))))
  (zRet (xE (sLit (.bl false))))
  zNx) (zSeq (zFor (sR1 (sB lenB (sCons (sVar 2) sNil))) (setV 3)
  B_law_shows_1) (zSeq (zSet 5 (xMeth "Picture" "rows" g_Picture_rows (xH (hVar 0)) xNil)) (zSeq (zSet 6 (xE (sCall g_law_rows (sCons (sVar 1) sNil)))) (zSeq (zIf (xP (sOrT (sNotT (sTru (sIsi "tuple" (sVar 5)))) (sBl (sOp oNe (sB lenB (sCons (sVar 5) sNil)) (sB lenB (sCons (sVar 6) sNil))))))
  (zRet (xE (sLit (.bl false))))
  zNx) (zRet (xE (sOp oEq (sB lenB (sCons (sL (sLc (sR1 (sB lenB (sCons (sVar 6) sNil))) (setV 3) (sNotT (sTru (sCall g_law_numbers (sCons (sOp oIx (sVar 5) (sVar 3)) (sCons (sOp oIx (sVar 6) (sVar 3)) sNil))))) (sVar 3) [3])) sNil)) (sLit (.int 0)))))))))))))
noncomputable def g_law_shows : List HV → Tb → Option (XRes HV) := gFX 2 N_law_shows.length F_law_shows
abbrev N_picture_parts : List Str := ["picture"]
noncomputable def F_picture_parts : SX := (zRet (xTup (xCons (xFld CS_statics "statics" (xH (hVar 0))) (xCons (xFld CS_frames "frames" (xH (hVar 0))) (xCons (xFld CS_watched "watched" (xH (hVar 0))) (xCons (xFld CS_parted "parted" (xH (hVar 0))) (xCons (xFld CS_objects "objects" (xH (hVar 0))) xNil)))))))
noncomputable def g_picture_parts : List HV → Tb → Option (XRes HV) := gFX 1 N_picture_parts.length F_picture_parts
abbrev N_Picture_eq : List Str := ["self", "other"]
noncomputable def F_Picture_eq : SX := (zRet (xAndV (xIso "Picture" (xH (hVar 1))) (xOp oEq (xCall g_picture_parts (xCons (xH (hVar 0)) xNil)) (xCall g_picture_parts (xCons (xH (hVar 1)) xNil)))))
noncomputable def g_Picture_eq : List HV → Tb → Option (XRes HV) := gFX 2 N_Picture_eq.length F_Picture_eq
abbrev N_law_frozenX : List Str := ["parts", "frames", "frame", "objects", "thing"]
noncomputable def F_law_frozenX : SX := (zSeq (zSet 1 (xLc (xIx (xH (hVar 0)) (xE (sLit (.int 1)))) (setHS 2) xYes (xTup (xCons (xIx (xH (hVar 2)) (xE (sLit (.int 0)))) (xCons (xIx (xH (hVar 2)) (xE (sLit (.int 1)))) (xCons (xTupOf (xIx (xH (hVar 2)) (xE (sLit (.int 2))))) (xCons (xTupOf (xIx (xH (hVar 2)) (xE (sLit (.int 3))))) xNil))))) [2])) (zSeq (zSet 3 (xLc (xIx (xH (hVar 0)) (xE (sLit (.int 4)))) (setHS 4) xYes (xTup (xCons (xIx (xH (hVar 4)) (xE (sLit (.int 0)))) (xCons (xTupOf (xIx (xH (hVar 4)) (xE (sLit (.int 1))))) xNil))) [4])) (zRet (xTup (xCons (xTupOf (xIx (xH (hVar 0)) (xE (sLit (.int 0))))) (xCons (xTupOf (xH (hVar 1))) (xCons (xTupOf (xIx (xH (hVar 0)) (xE (sLit (.int 2))))) (xCons (xTupOf (xIx (xH (hVar 0)) (xE (sLit (.int 3))))) (xCons (xTupOf (xH (hVar 3))) xNil)))))))))
noncomputable def g_law_frozenX : List HV → Tb → Option (XRes HV) := gFX 1 N_law_frozenX.length F_law_frozenX
abbrev N_law_rowsX : List Str := ["parts", "rows", "frame"]
noncomputable def B_law_rowsX_1 : SX := (zSet 1 (xCat (xH (hVar 1)) (xLst (xCons (xIx (xH (hVar 2)) (xE (sLit (.int 2)))) (xCons (xIx (xH (hVar 2)) (xE (sLit (.int 3)))) xNil)))))
noncomputable def F_law_rowsX : SX := (zSeq (zSet 1 (xLst (xCons (xIx (xH (hVar 0)) (xE (sLit (.int 0)))) xNil))) (zSeq (zForH (xIx (xH (hVar 0)) (xE (sLit (.int 1)))) (setHS 2)
  B_law_rowsX_1) (zRet (xCat (xH (hVar 1)) (xLst (xCons (xIx (xH (hVar 0)) (xE (sLit (.int 2)))) (xCons (xIx (xH (hVar 0)) (xE (sLit (.int 3)))) xNil)))))))
noncomputable def g_law_rowsX : List HV → Tb → Option (XRes HV) := gFX 1 N_law_rowsX.length F_law_rowsX
abbrev N_law_changed : List Str := ["parts", "row", "other", "word", "rows", "at", "mine", "deed", "frame", "thing", "words"]
noncomputable def F_law_changed : SX := (zSeq (zSet 2 (xCall g_law_listed (xCons (xE (sVar 0)) xNil))) (zSeq (zSet 3 (xE (sCall g_law_word (sCons (sOp oIx (sVar 1) (sLit (.int 3))) (sCons (sB lenB (sCons (sOp oIx (sVar 0) (sLit (.int 4))) sNil)) (sCons (sLit (.int 6)) sNil)))))) (zSeq (zSet 4 (xCall g_law_rowsX (xCons (xH (hVar 2)) xNil))) (zSeq (zSet 5 (xIx (xLst (xCons (xE (sLit (.int 0))) (xCons (xOp oSub (xLen (xH (hVar 4))) (xE (sLit (.int 2)))) (xCons (xOp oSub (xLen (xH (hVar 4))) (xE (sLit (.int 1)))) (xCons (xOp oMod (xE (sB intB (sCons (sOp oIx (sVar 1) (sLit (.int 1))) sNil))) (xLen (xH (hVar 4)))) xNil))))) (xE (sOp oMod (sB intB (sCons (sOp oIx (sVar 1) (sLit (.int 2))) sNil)) (sLit (.int 4)))))) (zSeq (zSet 6 (xIx (xH (hVar 4)) (xE (sVar 5)))) (zSeq (zSet 7 (xE (sOp oIx (sVar 1) (sLit (.int 0))))) (zSeq (zIf (xAndT (xP (sBl (sOp oLe (sVar 7) (sLit (.int 3))))) (xBl (xOp oGt (xLen (xH (hVar 6))) (xE (sLit (.int 0))))))
  (zPut (xH (hVar 6)) (xOp oMod (xE (sB intB (sCons (sOp oIx (sVar 1) (sLit (.int 4))) sNil))) (xLen (xH (hVar 6)))) (xE (sVar 3)))
  zNx) (zSeq (zIf (xP (sBl (sOp oIn (sVar 7) (sL (sLd (sCons (sLit (.int 4)) (sCons (sLit (.int 5)) sNil)))))))
  (zDo (xLm mApp (xH (hVar 6)) (xCons (xE (sVar 3)) xNil)))
  zNx) (zSeq (zIf (xAndT (xP (sBl (sOp oIn (sVar 7) (sL (sLd (sCons (sLit (.int 6)) (sCons (sLit (.int 7)) sNil))))))) (xBl (xOp oGt (xLen (xH (hVar 6))) (xE (sLit (.int 0))))))
  (zDo (xLm mPop (xH (hVar 6)) xNil))
  zNx) (zSeq (zIf (xP (sBl (sOp oIn (sVar 7) (sL (sLd (sCons (sLit (.int 8)) (sCons (sLit (.int 9)) sNil)))))))
  (zDo (xLm mRev (xH (hVar 6)) xNil))
  zNx) (zSeq (zIf (xAndT (xP (sBl (sOp oEq (sVar 7) (sLit (.int 10))))) (xAndT (xBl (xOp oGt (xLen (xH (hVar 6))) (xE (sLit (.int 0))))) (xBl (xOp oLt (xE (sOp oAdd (sVar 5) (sLit (.int 1)))) (xLen (xH (hVar 4)))))))
  (zDo (xLm mIns (xIx (xH (hVar 4)) (xE (sOp oAdd (sVar 5) (sLit (.int 1))))) (xCons (xE (sLit (.int 0))) (xCons (xLm mPop (xH (hVar 6)) xNil) xNil))))
  zNx) (zSeq (zIf (xP (sBl (sOp oEq (sVar 7) (sLit (.int 11)))))
  (zSet 2 (xLst (xCons (xIx (xH (hVar 2)) (xE (sLit (.int 0)))) (xCons (xIx (xH (hVar 2)) (xE (sLit (.int 1)))) (xCons (xIx (xH (hVar 2)) (xE (sLit (.int 3)))) (xCons (xIx (xH (hVar 2)) (xE (sLit (.int 2)))) (xCons (xIx (xH (hVar 2)) (xE (sLit (.int 4)))) xNil)))))))
  zNx) (zSeq (zIf (xAndT (xP (sBl (sOp oIn (sVar 7) (sL (sLd (sCons (sLit (.int 12)) (sCons (sLit (.int 13)) (sCons (sLit (.int 14)) (sCons (sLit (.int 15)) sNil))))))))) (xBl (xOp oGt (xLen (xIx (xH (hVar 2)) (xE (sLit (.int 1))))) (xE (sLit (.int 0))))))
  (zSeq (zSet 8 (xIx (xIx (xH (hVar 2)) (xE (sLit (.int 1)))) (xOp oMod (xE (sB intB (sCons (sOp oIx (sVar 1) (sLit (.int 4))) sNil))) (xLen (xIx (xH (hVar 2)) (xE (sLit (.int 1)))))))) (zSeq (zIf (xP (sBl (sOp oEq (sVar 7) (sLit (.int 12)))))
  (zPut (xH (hVar 8)) (xE (sLit (.int 0))) (xE (sCall g_law_name (sCons (sOp oIx (sVar 1) (sLit (.int 2))) (sCons (sLit (.bl false)) sNil)))))
  zNx) (zSeq (zIf (xP (sBl (sOp oEq (sVar 7) (sLit (.int 13)))))
  (zPut (xH (hVar 8)) (xE (sLit (.int 1))) (xE (sOp oMod (sOp oFd (sB intB (sCons (sOp oIx (sVar 1) (sLit (.int 3))) sNil)) (sLit (.int 8))) (sLit (.int 200)))))
  zNx) (zSeq (zIf (xP (sBl (sOp oEq (sVar 7) (sLit (.int 14)))))
  (zDo (xLm mPop (xIx (xH (hVar 2)) (xE (sLit (.int 1)))) xNil))
  zNx) (zIf (xP (sBl (sOp oEq (sVar 7) (sLit (.int 15)))))
  (zDo (xLm mRev (xIx (xH (hVar 2)) (xE (sLit (.int 1)))) xNil))
  zNx)))))
  zNx) (zSeq (zIf (xAndT (xP (sBl (sOp oIn (sVar 7) (sL (sLd (sCons (sLit (.int 16)) (sCons (sLit (.int 17)) (sCons (sLit (.int 18)) (sCons (sLit (.int 19)) (sCons (sLit (.int 20)) (sCons (sLit (.int 21)) sNil))))))))))) (xBl (xOp oGt (xLen (xIx (xH (hVar 2)) (xE (sLit (.int 4))))) (xE (sLit (.int 0))))))
  (zSeq (zSet 9 (xIx (xIx (xH (hVar 2)) (xE (sLit (.int 4)))) (xOp oMod (xE (sB intB (sCons (sOp oIx (sVar 1) (sLit (.int 4))) sNil))) (xLen (xIx (xH (hVar 2)) (xE (sLit (.int 4)))))))) (zSeq (zSet 10 (xIx (xH (hVar 9)) (xE (sLit (.int 1))))) (zSeq (zIf (xP (sBl (sOp oEq (sVar 7) (sLit (.int 16)))))
  (zPut (xH (hVar 9)) (xE (sLit (.int 0))) (xE (sCall g_law_name (sCons (sOp oIx (sVar 1) (sLit (.int 2))) (sCons (sLit (.bl false)) sNil)))))
  zNx) (zSeq (zIf (xAndT (xP (sBl (sOp oEq (sVar 7) (sLit (.int 17))))) (xBl (xOp oGt (xLen (xH (hVar 10))) (xE (sLit (.int 0))))))
  (zPut (xH (hVar 10)) (xOp oMod (xE (sB intB (sCons (sOp oIx (sVar 1) (sLit (.int 1))) sNil))) (xLen (xH (hVar 10)))) (xE (sVar 3)))
  zNx) (zSeq (zIf (xP (sBl (sOp oEq (sVar 7) (sLit (.int 18)))))
  (zDo (xLm mApp (xH (hVar 10)) (xCons (xE (sVar 3)) xNil)))
  zNx) (zSeq (zIf (xP (sBl (sOp oEq (sVar 7) (sLit (.int 19)))))
  (zDo (xLm mRev (xH (hVar 10)) xNil))
  zNx) (zSeq (zIf (xP (sBl (sOp oEq (sVar 7) (sLit (.int 20)))))
  (zDo (xLm mPop (xIx (xH (hVar 2)) (xE (sLit (.int 4)))) xNil))
  zNx) (zIf (xP (sBl (sOp oEq (sVar 7) (sLit (.int 21)))))
  (zDo (xLm mRev (xIx (xH (hVar 2)) (xE (sLit (.int 4)))) xNil))
  zNx))))))))
  zNx) (zRet (xH (hVar 2)))))))))))))))))
noncomputable def g_law_changed : List HV → Tb → Option (XRes HV) := gFX 2 N_law_changed.length F_law_changed
abbrev N_law : List Str := ["script", "parts", "due", "given", "one", "two", "frame", "thing", "other", "three", "same", "answer"]
noncomputable def B_law_1 : SX := (zSeq (zDo (xLm mApp (xIx (xH (hVar 6)) (xE (sLit (.int 2)))) (xCons (xE (sLit (.int 11))) xNil))) (zDo (xLm mApp (xIx (xH (hVar 6)) (xE (sLit (.int 3)))) (xCons (xE (sLit (.int 13))) xNil))))
noncomputable def B_law_2 : SX := (zDo (xLm mApp (xIx (xH (hVar 7)) (xE (sLit (.int 1)))) (xCons (xE (sLit (.int 15))) xNil)))
noncomputable def B_law_3 : SX := (zIf (xP (sOrT (sNotT (sTru (sIsi "bool" (sVar 11)))) (sBl (sOp oNe (sVar 11) (sVar 10)))))
  (zRet (xE (sLit (.bl false))))
  zNx)
noncomputable def F_law : SX := (zSeq (zSet 1 (xE (sCall g_law_parts (sCons (sVar 0) sNil)))) (zSeq (zSet 2 (xE (sCall g_law_frozen (sCons (sVar 1) sNil)))) (zSeq (zSet 3 (xCall g_law_listed (xCons (xE (sVar 1)) xNil))) (zSeq (zSet 4 (xMake "Picture" g_Picture_init (xCons (xIx (xH (hVar 3)) (xE (sLit (.int 0)))) (xCons (xIx (xH (hVar 3)) (xE (sLit (.int 1)))) (xCons (xIx (xH (hVar 3)) (xE (sLit (.int 2)))) (xCons (xIx (xH (hVar 3)) (xE (sLit (.int 3)))) (xCons (xIx (xH (hVar 3)) (xE (sLit (.int 4)))) xNil))))))) (zSeq (zSet 5 (xMakeK "Picture" g_Picture_init ["objects", "parted", "watched", "frames", "statics"] [4, 3, 2, 1, 0] (xCons (xE (sOp oIx (sVar 2) (sLit (.int 4)))) (xCons (xE (sOp oIx (sVar 2) (sLit (.int 3)))) (xCons (xE (sOp oIx (sVar 2) (sLit (.int 2)))) (xCons (xE (sOp oIx (sVar 2) (sLit (.int 1)))) (xCons (xE (sOp oIx (sVar 2) (sLit (.int 0)))) xNil))))))) (zSeq (zIf (xOrT (xNotT (xTru (xCall g_law_shows (xCons (xH (hVar 4)) (xCons (xE (sVar 2)) xNil))))) (xOrT (xNotT (xTru (xCall g_law_shows (xCons (xH (hVar 5)) (xCons (xE (sVar 2)) xNil))))) (xBl (xOp oNe (xH (hVar 3)) (xE (sVar 1))))))
  (zRet (xE (sLit (.bl false))))
  zNx) (zSeq (zDo (xLm mApp (xIx (xH (hVar 3)) (xE (sLit (.int 0)))) (xCons (xE (sLit (.int 9))) xNil))) (zSeq (zDo (xLm mApp (xIx (xH (hVar 3)) (xE (sLit (.int 2)))) (xCons (xE (sLit (.int 2))) xNil))) (zSeq (zForH (xIx (xH (hVar 3)) (xE (sLit (.int 1)))) (setHS 6)
  B_law_1) (zSeq (zForH (xIx (xH (hVar 3)) (xE (sLit (.int 4)))) (setHS 7)
  B_law_2) (zSeq (zDo (xLm mApp (xIx (xH (hVar 3)) (xE (sLit (.int 1)))) (xCons (xE (sL (sLd (sCons (sLit (.str "main")) (sCons (sLit (.int 3)) (sCons (sL (sLd (sCons (sLit (.int 1)) sNil))) (sCons (sL (sLd (sCons (sLit (.int 3)) sNil))) sNil))))))) xNil))) (zSeq (zDo (xLm mApp (xIx (xH (hVar 3)) (xE (sLit (.int 4)))) (xCons (xE (sL (sLd (sCons (sLit (.str "node")) (sCons (sL (sLd (sCons (sLit (.int 5)) sNil))) sNil))))) xNil))) (zSeq (zDo (xLm mApp (xIx (xH (hVar 3)) (xE (sLit (.int 3)))) (xCons (xE (sLit (.int 2))) xNil))) (zSeq (zIf (xOrT (xNotT (xTru (xCall g_law_shows (xCons (xH (hVar 4)) (xCons (xE (sVar 2)) xNil))))) (xOrT (xBl (xOp oIsN (xEqo "Picture" g_Picture_eq (xH (hVar 4)) (xH (hVar 5))) (xE (sLit (.bl true))))) (xBl (xOp oIsN (xEqo "Picture" g_Picture_eq (xH (hVar 5)) (xH (hVar 4))) (xE (sLit (.bl true)))))))
  (zRet (xE (sLit (.bl false))))
  zNx) (zSeq (zSet 8 (xCall g_law_frozenX (xCons (xCall g_law_changed (xCons (xE (sVar 1)) (xCons (xE (sCall g_law_digits (sCons (sCall g_law_cell (sCons (sVar 0) (sCons (sLit (.int 24)) sNil))) (sCons (sL (sLd (sCons (sLit (.int 24)) (sCons (sLit (.int 93)) (sCons (sLit (.int 8)) (sCons (sLit (.int 137438953472)) (sCons (sLit (.int 97)) sNil))))))) sNil)))) xNil))) xNil))) (zSeq (zSet 9 (xMake "Picture" g_Picture_init (xCons (xE (sOp oIx (sVar 8) (sLit (.int 0)))) (xCons (xE (sOp oIx (sVar 8) (sLit (.int 1)))) (xCons (xE (sOp oIx (sVar 8) (sLit (.int 2)))) (xCons (xE (sOp oIx (sVar 8) (sLit (.int 3)))) (xCons (xE (sOp oIx (sVar 8) (sLit (.int 4)))) xNil))))))) (zSeq (zSet 10 (xE (sOp oEq (sVar 8) (sVar 2)))) (zSeq (zForH (xLst (xCons (xEqo "Picture" g_Picture_eq (xH (hVar 4)) (xH (hVar 9))) (xCons (xEqo "Picture" g_Picture_eq (xH (hVar 9)) (xH (hVar 4))) (xCons (xEqo "Picture" g_Picture_eq (xH (hVar 5)) (xH (hVar 9))) (xCons (xEqo "Picture" g_Picture_eq (xH (hVar 9)) (xH (hVar 5))) xNil))))) (setHS 11)
  B_law_3) (zRet (xAndV (xCall g_law_shows (xCons (xH (hVar 9)) (xCons (xE (sVar 8)) xNil))) (xAndV (xCall g_law_shows (xCons (xH (hVar 5)) (xCons (xE (sVar 2)) xNil))) (xAndV (xCall g_law_shows (xCons (xH (hVar 4)) (xCons (xE (sVar 2)) xNil))) (xOp oIs (xEqo "Picture" g_Picture_eq (xH (hVar 4)) (xH (hVar 4))) (xE (sLit (.bl true))))))))))))))))))))))))))
noncomputable def g_law : List HV → Tb → Option (XRes HV) := gFX 1 N_law.length F_law
end Lw
namespace Lw
open PySem L2 Vf
abbrev iT (ns : List Int) : D := .tup (ns.map D.int)
theorem lcL_mapN {α : Type} {fe : FE} {s : TD → Ev → Option Ev} {env : Ev} {g h : α → D} : ∀ {xs : List α}, (∀ a ∈ xs, Ok (s (.N, g a) env) fun e => Ok (fe e) fun y => y = (.N, h a)) → lcL sYes fe s env (xs.map fun a => (Tg.N, g a)) = some (xs.map fun a => (Tg.N, h a))
  | [], _ => rfl
  | a :: xs, hh => by
    obtain ⟨e, q1, y, q2, q3⟩ := hh a List.mem_cons_self
    subst q3
    have ih := lcL_mapN (xs := xs) (fe := fe) (s := s) (env := env) (g := g) (h := h) fun r hr => hh r (List.mem_cons_of_mem _ hr)
    rw [List.map_cons]
    unfold lcL
    rw [q1, ih]
    simp [q2, okT]
@[simp high] theorem Ok_if_none {α : Type} {c : Prop} [Decidable c] {p : Option α} {Q : α → Prop} : Ok (if c then p else none) Q ↔ c ∧ Ok p Q := Ok_of_if
@[simp high] theorem Ok_if_none' {α : Type} {c : Prop} [Decidable c] {p : Option α} {Q : α → Prop} : Ok (if c then none else p) Q ↔ ¬ c ∧ Ok p Q := by
  by_cases h : c <;> simp [h]
structure Fr where
  name : Str
  place : Int
  sl : List Int
  sk : List Int
structure Ob where
  name : Str
  ws : List Int
structure Pic where
  st : List Int
  fr : List Fr
  wa : List Int
  pa : List Int
  ob : List Ob
def frD (f : Fr) : D := .tup [.str f.name, .int f.place, iT f.sl, iT f.sk]
def obD (o : Ob) : D := .tup [.str o.name, iT o.ws]
def pL (p : Pic) : List D := [iT p.st, .tup (p.fr.map frD), iT p.wa, iT p.pa, .tup (p.ob.map obD)]
def pD (p : Pic) : D := .tup (pL p)
structure FrOk (f : Fr) : Prop where
  nm : f.name.length ≤ 20
  so : PyData.strOk f.name = true
  s2 : f.sl.length ≤ 5000
  k2 : f.sk.length ≤ 5000
structure ObOk (o : Ob) : Prop where
  nm : o.name.length ≤ 20
  so : PyData.strOk o.name = true
  w2 : o.ws.length ≤ 5000
structure PicOk (p : Pic) : Prop where
  st2 : p.st.length ≤ 5000
  fr1 : ∀ f ∈ p.fr, FrOk f
  fr2 : p.fr.length ≤ 5000
  wa2 : p.wa.length ≤ 5000
  pa2 : p.pa.length ≤ 5000
  ob1 : ∀ o ∈ p.ob, ObOk o
  ob2 : p.ob.length ≤ 5000
structure FrS (f : Fr) : Prop where
  nm : f.name.length ≤ 20
  so : PyData.strOk f.name = true
  s2 : f.sl.length ≤ 3000
  k2 : f.sk.length ≤ 3000
structure ObS (o : Ob) : Prop where
  nm : o.name.length ≤ 20
  so : PyData.strOk o.name = true
  w2 : o.ws.length ≤ 3000
structure PicS (p : Pic) : Prop where
  st2 : p.st.length ≤ 3000
  fr1 : ∀ f ∈ p.fr, FrS f
  fr2 : p.fr.length ≤ 3000
  wa2 : p.wa.length ≤ 3000
  pa2 : p.pa.length ≤ 3000
  ob1 : ∀ o ∈ p.ob, ObS o
  ob2 : p.ob.length ≤ 3000
theorem FrS.ok {f : Fr} (h : FrS f) : FrOk f := ⟨h.nm, h.so, Nat.le_trans h.s2 (by decide), Nat.le_trans h.k2 (by decide)⟩
theorem ObS.ok {f : Ob} (h : ObS f) : ObOk f := ⟨h.nm, h.so, Nat.le_trans h.w2 (by decide)⟩
theorem PicS.ok {p : Pic} (h : PicS p) : PicOk p := ⟨Nat.le_trans h.st2 (by decide), fun f hf => (h.fr1 f hf).ok, Nat.le_trans h.fr2 (by decide), Nat.le_trans h.wa2 (by decide), Nat.le_trans h.pa2 (by decide), fun f hf => (h.ob1 f hf).ok, Nat.le_trans h.ob2 (by decide)⟩
@[simp] theorem pL0 (p : Pic) : atI (pL p) 0 = some (iT p.st) := rfl
@[simp] theorem pL1 (p : Pic) : atI (pL p) 1 = some (.tup (p.fr.map frD)) := rfl
@[simp] theorem pL2 (p : Pic) : atI (pL p) 2 = some (iT p.wa) := rfl
@[simp] theorem pL3 (p : Pic) : atI (pL p) 3 = some (iT p.pa) := rfl
@[simp] theorem pL4 (p : Pic) : atI (pL p) 4 = some (.tup (p.ob.map obD)) := rfl
def Ext (T T' : Tb) : Prop := T <+: T'
theorem Ext.refl (T : Tb) : Ext T T := List.prefix_refl T
theorem Ext.trans {T T' T2 : Tb} (a : Ext T T') (b : Ext T' T2) : Ext T T2 := List.IsPrefix.trans a b
theorem Ext.get {T T' : Tb} (a : Ext T T') {n : Nat} {M : Option Mob} (h : T[n]? = some M) : T'[n]? = some M := by
  obtain ⟨l, hl⟩ := a
  rw [← hl, List.getElem?_append_left (List.getElem?_eq_some_iff.mp h).1]
  exact h
theorem Ext.app (T : Tb) (l : Tb) : Ext T (T ++ l) := List.prefix_append T l
theorem Ext.le {T T' : Tb} (h : Ext T T') : T.length ≤ T'.length := List.IsPrefix.length_le h
theorem Ext.set {T T' : Tb} (h : Ext T T') {n : Nat} {m : Option Mob} (hn : T.length ≤ n) : Ext T (T'.set n m) := by
  obtain ⟨l, rfl⟩ := h
  rw [List.set_append_right _ _ hn]
  exact Ext.app T _
@[simp] theorem pures_n : pures [] = some [] := rfl
@[simp] theorem pures_c {d : D} {xs : List HV} : pures (.pu d :: xs) = (pures xs).map (d :: ·) := rfl
theorem pures_map (ds : List D) : pures (ds.map .pu) = some ds := by
  induction ds with
  | nil => rfl
  | cons d ds ih => rw [List.map_cons, pures_c, ih]; rfl
def picM (p : Pic) : Mob := .ins "Picture" ["statics", "frames", "watched", "parted", "objects"] [.pu (iT p.st), .pu (.tup (p.fr.map frD)), .pu (iT p.wa), .pu (iT p.pa), .pu (.tup (p.ob.map obD))]
theorem fld_pic {T : Tb} {n : Nat} {p : Pic} (h : T[n]? = some (some (picM p))) : fldX CS_statics "statics" (.ob n) T = some (.val (.pu (iT p.st)) T) ∧ fldX CS_frames "frames" (.ob n) T = some (.val (.pu (.tup (p.fr.map frD))) T) ∧ fldX CS_watched "watched" (.ob n) T = some (.val (.pu (iT p.wa)) T) ∧ fldX CS_parted "parted" (.ob n) T = some (.val (.pu (iT p.pa)) T) ∧ fldX CS_objects "objects" (.ob n) T = some (.val (.pu (.tup (p.ob.map obD))) T) := by
  unfold picM at h
  refine ⟨?_, ?_, ?_, ?_, ?_⟩ <;> (unfold fldX; simp only [h, CS_statics, CS_frames, CS_watched, CS_parted, CS_objects, List.mem_cons, true_or, if_true]; rfl)
mutual
def frzD : D → D
  | .lst xs => .tup (frzDs xs)
  | .tup xs => .tup (frzDs xs)
  | .scr xs => .tup (frzDs xs)
  | d => d
def frzDs : List D → List D
  | [] => []
  | d :: ds => frzD d :: frzDs ds
end
mutual
def okF : Nat → D → Bool
  | 0, _ => false
  | n + 1, .lst xs => okFs n xs && decide (xs.length ≤ lim)
  | n + 1, .tup xs => okFs n xs && decide (xs.length ≤ lim)
  | n + 1, .scr xs => okFs n xs && decide (xs.length ≤ lim)
  | _ + 1, .non => true
  | _ + 1, .bl _ => true
  | _ + 1, .int _ => true
  | _ + 1, .str _ => true
  | _ + 1, .ins _ _ _ => false
  | _ + 1, .dic _ _ => false
def okFs : Nat → List D → Bool
  | _, [] => true
  | n, d :: ds => okF n d && okFs n ds
end
@[simp] theorem kit24 : kitB "NoneType" "list" = some false := by decide +kernel
@[simp] theorem kit25 : kitB "bool" "list" = some false := by decide +kernel
@[simp] theorem kit26 : kitB "bool" "tuple" = some false := by decide +kernel
@[simp] theorem kit27 : kitB "int" "list" = some false := by decide +kernel
@[simp] theorem kit28 : kitB "str" "list" = some false := by decide +kernel
theorem okFs_mem {n : Nat} : ∀ {ds : List D}, okFs n ds = true → ∀ d ∈ ds, okF n d = true
  | [], _, d, h => by cases h
  | x :: xs, e, d, h => by
    have e : (okF n x && okFs n xs) = true := e
    rw [Bool.and_eq_true] at e
    rcases List.mem_cons.mp h with q | q
    · rw [q]; exact e.1
    · exact okFs_mem e.2 d q
theorem frzDs_map : ∀ ds : List D, frzDs ds = ds.map frzD
  | [] => rfl
  | d :: ds => by show frzD d :: frzDs ds = _; rw [frzDs_map ds]; rfl
theorem frozen_N : ∀ (n : Nat) (t : Tg) (d : D), okT t = true → okF n d = true → gN_frozen n [(t, d)] = some (.N, frzD d)
  | 0, t, d, ht, h => by simp [okF] at h
  | n + 1, t, d, ht, h => by
    have ih := frozen_N n
    have hseq : ∀ xs : List D, okFs n xs = true → xs.length ≤ lim → ∀ t', okT t' = true → lcL sYes (sCall (gN_frozen n) (sCons (sVar 1) sNil)) (setV 1) ⟨[.val t' d, .un], []⟩ (xs.map fun x => nm (t', x)) = some (xs.map fun x => (Tg.N, frzD x)) := by
      intro xs hx hl t' ht'
      have key : ∀ rs : List D, (∀ x ∈ rs, okF n x = true) → lcL sYes (sCall (gN_frozen n) (sCons (sVar 1) sNil)) (setV 1) ⟨[.val t' d, .un], []⟩ (rs.map fun x => nm (t', x)) = some (rs.map fun x => (Tg.N, frzD x)) := by
        intro rs
        induction rs with
        | nil => intro _; rfl
        | cons r rs ihr =>
          intro hr
          have h1 := ihr fun x hx => hr x (List.mem_cons_of_mem _ hx)
          have h2 := hr r List.mem_cons_self
          rw [List.map_cons]
          unfold lcL
          rw [h1]
          cases t' with
          | N => simp [ih .N r rfl h2, okT]
          | B =>
            cases r <;> first | (cases n <;> simp [okF] at h2; done) | simp [ih .N _ rfl h2, ih .B _ rfl h2, okT]
          | T => exact Bool.noConfusion ht'
          | O => exact Bool.noConfusion ht'
      exact key xs (okFs_mem hx)
    unfold gN_frozen
    refine (gF_at (by rfl) (by simp [ht])).trans (Ok.eq ?_)
    have hn : ∀ xs : List D, okFs n xs = true → xs.length ≤ lim → d = .lst xs ∨ d = .scr xs ∨ d = .tup xs → Ok (F_frozen (gN_frozen n) (env0 N_frozen.length [(t, d)])) fun o => Ok (fin o) fun r => r = (Tg.N, .tup (xs.map frzD)) := by
      intro xs hx hl hd
      have hs := hseq xs hx hl t ht
      rcases hd with rfl | rfl | rfl <;> cases t <;> first | exact Bool.noConfusion ht | (try simp at hs) <;> simp [F_frozen, sIsi2, isi2D, hs, hl]
    cases d with
    | lst xs =>
      simp only [okF, Bool.and_eq_true, decide_eq_true_eq] at h
      rw [Ok_bind]
      refine (hn xs h.1 h.2 (.inl rfl)).mono fun o ho => ho.mono fun r hr => ?_
      rw [hr, frzD, frzDs_map]
    | scr xs =>
      simp only [okF, Bool.and_eq_true, decide_eq_true_eq] at h
      rw [Ok_bind]
      refine (hn xs h.1 h.2 (.inr (.inl rfl))).mono fun o ho => ho.mono fun r hr => ?_
      rw [hr, frzD, frzDs_map]
    | tup xs =>
      simp only [okF, Bool.and_eq_true, decide_eq_true_eq] at h
      rw [Ok_bind]
      refine (hn xs h.1 h.2 (.inr (.inr rfl))).mono fun o ho => ho.mono fun r hr => ?_
      rw [hr, frzD, frzDs_map]
    | ins _ _ _ => simp [okF] at h
    | dic _ _ => simp [okF] at h
    | non => simp [F_frozen, sIsi2, isi2D, frzD]
    | bl b => simp [F_frozen, sIsi2, isi2D, frzD]
    | int i => simp [F_frozen, sIsi2, isi2D, frzD]
    | str z => simp [F_frozen, sIsi2, isi2D, frzD]
theorem iRng_get {n : Nat} {k : Nat} {r : TD} (h : (iRng n 0)[k]? = some r) : k < n ∧ r = (.N, .int (k : Int)) := by
  unfold iRng at h
  rw [List.getElem?_map] at h
  obtain ⟨j, h1, rfl⟩ := Option.map_eq_some_iff.mp h
  have hi : k < n := by simpa using (List.getElem?_eq_some_iff.mp h1).1
  rw [List.getElem?_range hi] at h1
  cases h1
  exact ⟨hi, by simp⟩
theorem hVar_slH {x : HV} {l : List Sl} {T : Tb} : hVar 0 ⟨slH x :: l, T⟩ = some x := by cases x <;> rfl
theorem mapO_imp {α β : Type} {f g : α → Option β} (h : ∀ x y, f x = some y → g x = some y) : ∀ {xs : List α} {ys : List β}, mapO f xs = some ys → mapO g xs = some ys
  | [], _, e => e
  | x :: xs, _, e => by
    obtain ⟨y, h1, h2⟩ := Option.bind_eq_some_iff.mp e
    obtain ⟨ys, h3, rfl⟩ := Option.map_eq_some_iff.mp h2
    show (g x).bind _ = _
    rw [h _ _ h1, mapO_imp h h3]
    rfl
theorem snapM_imp {f g : HV → Option D} (h : ∀ x y, f x = some y → g x = some y) {M : Mob} {d : D} (e : snapM f M = some d) : snapM g M = some d := by
  cases M <;> (obtain ⟨ds, h1, rfl⟩ := Option.map_eq_some_iff.mp e; show Option.map _ _ = _; rw [mapO_imp h h1]; rfl)
theorem snapN_ext {T T' : Tb} (e : Ext T T') : ∀ (i : Nat) (x : HV) (d : D), snapN T i x = some d → snapN T' i x = some d
  | _, .pu _, _, h => by simpa using h
  | 0, .ob _, _, h => by cases h
  | i + 1, .ob n, d, h => by
    cases hn : T[n]? with
    | none => unfold snapN at h; simp [hn] at h
    | some m =>
      cases m with
      | none => unfold snapN at h; simp [hn] at h
      | some M =>
        rw [snap_ob hn] at h
        rw [snap_ob (e.get hn)]
        exact snapM_imp (snapN_ext e i) h
theorem tdX_ext {T T' : Tb} (e : Ext T T') {x : HV} {r : TD} (h : tdX T x = some r) : tdX T' x = some r := by
  cases x with
  | pu d => exact h
  | ob n =>
    obtain ⟨d, h1, rfl⟩ := Option.map_eq_some_iff.mp h
    show (snapN T' 9 (.ob n)).map _ = _
    rw [snapN_ext e _ _ _ h1]
    rfl
def Fz (T : Tb) (x : HV) (e : D) : Prop := ∃ t t' d, tdX T x = some (t, d) ∧ okT t' = true ∧ dn (t, d) = (t', d) ∧ g_frozen [(t', d)] = some (.N, e)
theorem Fz.ext {T T' : Tb} {x : HV} {e : D} (h : Fz T x e) (g : Ext T T') : Fz T' x e := by
  obtain ⟨t, t', d, h1, h2, h3, h4⟩ := h
  exact ⟨t, t', d, tdX_ext g h1, h2, h3, h4⟩
theorem init_at {T : Tb} {n : Nat} {x1 x2 x3 x4 x5 : HV} {p : Pic} (h1 : Fz T x1 (iT p.st)) (h2 : Fz T x2 (.tup (p.fr.map frD))) (h3 : Fz T x3 (iT p.wa)) (h4 : Fz T x4 (iT p.pa)) (h5 : Fz T x5 (.tup (p.ob.map obD))) (hn : n = T.length) :
    Ok (g_Picture_init [.ob n, x1, x2, x3, x4, x5] (T ++ [some (.ins "Picture" [] [])])) fun r => ∃ T', r = .val (.pu .non) T' ∧ Ext T T' ∧ T'[n]? = some (some (picM p)) := by
  subst hn
  have hz : ∀ {x e}, Fz T x e → ∀ M : Option Mob, ∃ t t' d, tdX (T ++ [M]) x = some (t, d) ∧ okT t' = true ∧ dn (t, d) = (t', d) ∧ g_frozen [(t', d)] = some (.N, e) := fun h M => h.ext (Ext.app T _)
  obtain ⟨t1, u1, d1, a1, b1, c1, f1⟩ := h1
  obtain ⟨t2, u2, d2, a2, b2, c2, f2⟩ := h2
  obtain ⟨t3, u3, d3, a3, b3, c3, f3⟩ := h3
  obtain ⟨t4, u4, d4, a4, b4, c4, f4⟩ := h4
  obtain ⟨t5, u5, d5, a5, b5, c5, f5⟩ := h5
  have z1 : ∀ M : Option Mob, tdX (T ++ [M]) x1 = some (t1, d1) := fun M => tdX_ext (Ext.app T _) a1
  have z2 : ∀ M : Option Mob, tdX (T ++ [M]) x2 = some (t2, d2) := fun M => tdX_ext (Ext.app T _) a2
  have z3 : ∀ M : Option Mob, tdX (T ++ [M]) x3 = some (t3, d3) := fun M => tdX_ext (Ext.app T _) a3
  have z4 : ∀ M : Option Mob, tdX (T ++ [M]) x4 = some (t4, d4) := fun M => tdX_ext (Ext.app T _) a4
  have z5 : ∀ M : Option Mob, tdX (T ++ [M]) x5 = some (t5, d5) := fun M => tdX_ext (Ext.app T _) a5
  have n1 : ¬ ("statics" : Str) = "frames" := by decide
  have n2 : ¬ ("statics" : Str) = "watched" := by decide
  have n3 : ¬ ("statics" : Str) = "parted" := by decide
  have n4 : ¬ ("statics" : Str) = "objects" := by decide
  have n5 : ¬ ("frames" : Str) = "watched" := by decide
  have n6 : ¬ ("frames" : Str) = "parted" := by decide
  have n7 : ¬ ("frames" : Str) = "objects" := by decide
  have n8 : ¬ ("watched" : Str) = "parted" := by decide
  have n9 : ¬ ("watched" : Str) = "objects" := by decide
  have n0 : ¬ ("parted" : Str) = "objects" := by decide
  unfold g_Picture_init
  rw [gFX_at (by rfl)]
  simp [F_Picture_init, hVar_slH, stoZ, putG, z1, z2, z3, z4, z5, c1, c2, c3, c4, c5, f1, f2, f3, f4, f5, up, n1, n2, n3, n4, n5, n6, n7, n8, n9, n0, picM]
  exact Ext.app _ _
theorem cutD_from (xs : List D) (a : Nat) : cutD xs (some (a : Int)) none = xs.drop a := by
  unfold cutD
  rw [HT.sIx_nat]
  show (xs.drop (min a xs.length)).take (xs.length - min a xs.length) = _
  by_cases h : a ≤ xs.length
  · rw [Nat.min_eq_left (a := a) h, List.take_of_length_le (by simp)]
  · have h9 : xs.length ≤ a := by omega
    rw [Nat.min_eq_right h9, List.drop_of_length_le (Nat.le_refl _), List.drop_of_length_le h9]
    simp
theorem cutD_to (xs : List D) (b : Nat) : cutD xs none (some (b : Int)) = xs.take b := by
  unfold cutD
  rw [HT.sIx_nat]
  show (xs.drop 0).take (min b xs.length - 0) = _
  rw [List.drop_zero, Nat.sub_zero]
  by_cases h : b ≤ xs.length
  · rw [Nat.min_eq_left h]
  · have h9 : xs.length ≤ b := by omega
    rw [Nat.min_eq_right h9, List.take_of_length_le (Nat.le_refl _), List.take_of_length_le h9]
theorem nats_at (zs : List Nat) {b : Nat} (hb : ∀ z ∈ zs, z ≤ b) {i : Int} (h0 : 0 ≤ i) (h1 : i < zs.length) : ∃ z : Nat, z ≤ b ∧ atI (zs.map fun (n : Nat) => D.int (n : Int)) i = some (.int (z : Int)) := by
  obtain ⟨m, rfl⟩ : ∃ m : Nat, i = (m : Int) := ⟨i.toNat, by omega⟩
  have hm : m < zs.length := by omega
  exact ⟨zs[m], hb _ (List.getElem_mem _), atI_nat (by rw [List.getElem?_map, List.getElem?_eq_getElem hm]; rfl)⟩
theorem cell_at {ns : List Int} (hn : LawOk ns) (t : Tg) {i : Int} (h0 : 0 ≤ i) (h1 : i < 1000) : ∃ c, g_law_cell [(t, .scr (ns.map D.int)), (.N, .int i)] = some (.N, .int c) := by
  obtain ⟨m, rfl⟩ : ∃ m : Nat, i = (m : Int) := ⟨i.toNat, by omega⟩
  exact ⟨_, g_law_cell_at hn (by omega)⟩
abbrev iH (ns : List Int) : List HV := ns.map fun n => .pu (.int n)
def frLD (f : Fr) : D := .lst [.str f.name, .int f.place, .lst (f.sl.map D.int), .lst (f.sk.map D.int)]
def obLD (o : Ob) : D := .lst [.str o.name, .lst (o.ws.map D.int)]
theorem okF_ints (n : Nat) (ns : List Int) : okFs (n + 1) (ns.map D.int) = true := by
  induction ns with
  | nil => rfl
  | cons x ns ih =>
    show (okF (n + 1) (.int x) && okFs (n + 1) (ns.map D.int)) = true
    rw [ih]; rfl
theorem frz_ints (ns : List Int) : frzDs (ns.map D.int) = ns.map D.int := by
  rw [frzDs_map, List.map_map]
  rfl
theorem fz_of {T : Tb} {x : HV} {t t' : Tg} {d e : D} (h1 : tdX T x = some (t, d)) (h2 : dn (t, d) = (t', d)) (h3 : okT t' = true) (h4 : okF 9 d = true) (h5 : frzD d = e) : Fz T x e := ⟨t, t', d, h1, h3, h2, by
  unfold g_frozen
  rw [frozen_N 9 t' _ h3 h4, h5]⟩
theorem fz_iT {T : Tb} {ns : List Int} (hl : ns.length ≤ lim) : Fz T (.pu (iT ns)) (iT ns) := by
  refine fz_of (t := .N) (t' := .N) rfl (by simp) rfl ?_ ?_
  · rw [okF, okF_ints]
    simp [hl]
  · rw [frzD, frz_ints]
theorem okFs_map {α : Type} (g : α → D) (fs : List α) (n : Nat) (h : ∀ f ∈ fs, okF n (g f) = true) : okFs n (fs.map g) = true := by
  induction fs with
  | nil => unfold okFs; rfl
  | cons x fs ih =>
    rw [List.map_cons, okFs, ih fun f hf => h f (List.mem_cons_of_mem _ hf), h x List.mem_cons_self]
    rfl
theorem frz_map {α : Type} {g k : α → D} (fs : List α) (h : ∀ f, frzD (g f) = k f) : frzDs (fs.map g) = fs.map k := by
  rw [frzDs_map, List.map_map]
  exact List.map_congr_left fun f _ => h f
theorem frz_fr (f : Fr) : frzD (frLD f) = frD f ∧ frzD (frD f) = frD f := by
  constructor <;> simp only [frLD, frD, frzD, frzDs, frz_ints]
theorem frz_ob (o : Ob) : frzD (obLD o) = obD o ∧ frzD (obD o) = obD o := by
  constructor <;> simp only [obLD, obD, frzD, frzDs, frz_ints]
theorem okF_fr {f : Fr} (h : FrOk f) : okF 8 (frLD f) = true ∧ okF 8 (frD f) = true := by
  have := h.s2
  have := h.k2
  have l4 : 4 ≤ lim := by decide
  have l1 : f.sl.length ≤ lim := by unfold lim; omega
  have l2 : f.sk.length ≤ lim := by unfold lim; omega
  have o1 := okF_ints 5 f.sl
  have o2 := okF_ints 5 f.sk
  constructor <;> simp [frLD, frD, okF, okFs, o1, o2, l1, l2, l4]
theorem okF_ob {o : Ob} (h : ObOk o) : okF 8 (obLD o) = true ∧ okF 8 (obD o) = true := by
  have := h.w2
  have l4 : 2 ≤ lim := by decide
  have l1 : o.ws.length ≤ lim := by unfold lim; omega
  have o1 := okF_ints 5 o.ws
  constructor <;> simp [obLD, obD, okF, okFs, o1, l1, l4]
theorem fz_frT {T : Tb} {fs : List Fr} (ho : ∀ f ∈ fs, FrOk f) (hl : fs.length ≤ lim) : Fz T (.pu (.tup (fs.map frD))) (.tup (fs.map frD)) := by
  refine fz_of (t := .N) (t' := .N) rfl (by simp) rfl ?_ ?_
  · rw [okF, okFs_map _ _ _ fun f hf => (okF_fr (ho f hf)).2]
    simp [hl]
  · rw [frzD, frz_map fs fun f => (frz_fr f).2]
theorem fz_obT {T : Tb} {fs : List Ob} (ho : ∀ f ∈ fs, ObOk f) (hl : fs.length ≤ lim) : Fz T (.pu (.tup (fs.map obD))) (.tup (fs.map obD)) := by
  refine fz_of (t := .N) (t' := .N) rfl (by simp) rfl ?_ ?_
  · rw [okF, okFs_map _ _ _ fun f hf => (okF_ob (ho f hf)).2]
    simp [hl]
  · rw [frzD, frz_map fs fun f => (frz_ob f).2]
theorem make_at {T : Tb} {x1 x2 x3 x4 x5 : HV} {p : Pic} (h1 : Fz T x1 (iT p.st)) (h2 : Fz T x2 (.tup (p.fr.map frD))) (h3 : Fz T x3 (iT p.wa)) (h4 : Fz T x4 (iT p.pa)) (h5 : Fz T x5 (.tup (p.ob.map obD))) : ∃ T', mkX "Picture" g_Picture_init [x1, x2, x3, x4, x5] T = some (.val (.ob T.length) T') ∧ Ext T T' ∧ T'[T.length]? = some (some (picM p)) := by
  obtain ⟨r, hr, T', rfl, e1, e2⟩ := init_at h1 h2 h3 h4 h5 rfl
  refine ⟨T', ?_, e1, e2⟩
  rw [mkX_eq, hr]
  rfl
theorem seq_step {A B : SX} {env : Ev} {Q P : OutX → Prop} (hA : Ok (A env) P) (hB : ∀ o, P o → ∃ e, o = .nx e ∧ Ok (B e) Q) : Ok (zSeq A B env) Q := by
  obtain ⟨o, h1, h2⟩ := hA
  obtain ⟨e, rfl, r, h3, h4⟩ := hB o h2
  refine ⟨r, ?_, h4⟩
  unfold zSeq
  rw [h1]
  exact h3
theorem sq_step {A B : FS} {env : Ev} {Q P : Out → Prop} (hA : Ok (A env) P) (hB : ∀ o, P o → ∃ e, o = .nx e ∧ Ok (B e) Q) : Ok (sSeq A B env) Q := by
  obtain ⟨o, h1, h2⟩ := hA
  obtain ⟨e, rfl, r, h3, h4⟩ := hB o h2
  refine ⟨r, ?_, h4⟩
  show (A env).bind _ = _
  rw [h1]
  exact h3
end Lw
namespace Lw
open PySem L2 Vf
/-! the drawn parts -/
theorem law_number_at {d : Int} (h0 : 0 ≤ d) (h1 : d < 1099511627776) : Ok (g_law_number [(.N, .int d)]) fun r => ∃ w, r = (.N, .int w) := by
  have b1 : bitsOk 2 (d / 4 % 24 - 6) = true := bits_sm (by decide) (by decide) (by omega) (by omega)
  have b2 : bitsOk (d / 4) 2654435761 = true := bits_sm (by omega) (by omega) (by decide) (by decide)
  have b3 : bitsOk 2 (d / 4 * 2654435761 % 4294967296 - 2147483648) = true := bits_sm (by decide) (by decide) (by omega) (by omega)
  unfold g_law_number
  rw [gF_at (by rfl) (by rfl)]
  by_cases c : 0 < d % 4 <;> simp [F_law_number, c, b1, b2, b3]
theorem law_word_at {d m t : Int} (h0 : 0 ≤ d) (h1 : d < 1099511627776) (m0 : 0 ≤ m) (m1 : m < 100000) : Ok (g_law_word [(.N, .int d), (.N, .int m), (.N, .int t)]) fun r => ∃ w, r = (.N, .int w) := by
  obtain ⟨r, hn, w, rfl⟩ := law_number_at (d := d / 8) (by omega) (by omega)
  have b1 : 0 < m → bitsOk 2 (d / 8 % m) = true := fun hm => by
    have a1 := Int.emod_nonneg (d / 8) (show m ≠ 0 by omega)
    have a2 := Int.emod_lt_of_pos (d / 8) hm
    exact bits_sm (by decide) (by decide) (by omega) (by omega)
  unfold g_law_word
  rw [gF_at (by rfl) (by rfl)]
  by_cases c1 : d % 8 < t
  · by_cases c2 : 0 < m
    · simp [F_law_word, c1, c2, b1 c2]
    · by_cases c3 : d % 8 = t <;> simp [F_law_word, c1, c2, c3, hn]
  · by_cases c3 : d % 8 = t <;> simp [F_law_word, c1, c3, hn]
theorem law_any_at {d m t : Int} (h0 : 0 ≤ d) (h1 : d < 1099511627776) (m0 : 0 ≤ m) (m1 : m < 1000) : Ok (g_law_any [(.N, .int d), (.N, .int m), (.N, .int t)]) fun r => ∃ w, r = (.N, .int w) := by
  obtain ⟨r, hn, w, rfl⟩ := law_word_at (d := d / 4) (m := m) (t := t % 6) (by omega) (by omega) m0 (by omega)
  have b1 : bitsOk 2 (d / 4 / 8 % 1000) = true := bits_sm (by decide) (by decide) (by omega) (by omega)
  have b2 : bitsOk 2 m = true := bits_sm (by decide) (by decide) (by omega) (by omega)
  have l3 : 3 ≤ lim := by decide
  have i0 : ∀ a b c : D, atI [a, b, c] 0 = some a := fun _ _ _ => rfl
  have i1 : ∀ a b c : D, atI [a, b, c] 1 = some b := fun _ _ _ => rfl
  have i2 : ∀ a b c : D, atI [a, b, c] 2 = some c := fun _ _ _ => rfl
  have h4 : d % 4 = 0 ∨ d % 4 = 1 ∨ d % 4 = 2 ∨ d % 4 = 3 := by omega
  unfold g_law_any
  rw [gF_at (by rfl) (by rfl)]
  by_cases c1 : t < 6
  · simp [F_law_any, c1, hn, b1]
  · rcases h4 with h4 | h4 | h4 | h4 <;> simp [F_law_any, c1, h4, hn, b1, b2, l3, i0, i1, i2]
theorem strs_at (zs : List Str) (h : ∀ z ∈ zs, z.length ≤ 20 ∧ PyData.strOk z = true) {i : Int} (h0 : 0 ≤ i) (h1 : i < zs.length) : ∃ z, atI (zs.map D.str) i = some (.str z) ∧ z.length ≤ 20 ∧ PyData.strOk z = true := by
  obtain ⟨m, rfl⟩ : ∃ m : Nat, i = (m : Int) := ⟨i.toNat, by omega⟩
  have hm : m < zs.length := by omega
  exact ⟨zs[m], atI_map hm, h _ (List.getElem_mem _)⟩
abbrev nmO : List Str := ["", "num", "Two words", "node", "-", "abcdefgh123456789", "1", "node "]
abbrev nmE : List Str := ["node", "node2", "n", "abcdefgh12345678", "abcdefgh12345679", "bbcdefgh12345678", "row7", "main"]
theorem nmO_ok : ∀ z ∈ nmO, z.length ≤ 20 ∧ PyData.strOk z = true := by decide +kernel
theorem nmE_ok : ∀ z ∈ nmE, z.length ≤ 20 ∧ PyData.strOk z = true := by decide +kernel
theorem law_name_at {d : Int} (h0 : 0 ≤ d) (h1 : d < 8) (b : Bool) : Ok (g_law_name [(.N, .int d), (.N, .bl b)]) fun r => ∃ z, r = (.N, .str z) ∧ z.length ≤ 20 ∧ PyData.strOk z = true := by
  obtain ⟨z1, e1, p1⟩ := strs_at nmO nmO_ok h0 h1
  obtain ⟨z2, e2, p2⟩ := strs_at nmE nmE_ok h0 h1
  simp only [List.map_cons, List.map_nil] at e1 e2
  have l8 : 8 ≤ lim := by decide
  unfold g_law_name
  rw [gF_at (by rfl) (by rfl)]
  cases b
  · simp [F_law_name, e2, l8]; exact p2
  · simp [F_law_name, e1, l8]; exact p1
/-! rows of digits -/
def bigL (n : Nat) : List Int := List.replicate n 549755813888
def szD (ss : List Int) : D := .lst (ss.map D.int)
theorem big_mul {n : Nat} (hn : n ≤ 30) : oMulX (.N, .lst [.int 549755813888]) (.N, .int (n : Int)) = some (.N, szD (bigL n)) := by
  rw [oMulX_lst, oMul_lst (by simp [lim]; omega)]
  simp [szD, bigL]
theorem big_add (hd : List Int) {n : Nat} (hn : hd.length + n ≤ 1000) : oAdd (.N, .lst (hd.map D.int)) (.N, szD (bigL n)) = some (.N, szD (hd ++ bigL n)) := Ok.eq (by
  unfold szD
  rw [Ok_oAdd_lst]
  exact ⟨by simp [bigL, lim]; omega, by simp⟩)
structure RowOk (hd rw : List Int) (n : Nat) : Prop where
  len : rw.length = hd.length + n
  h : ∀ k (hk : k < hd.length), ∃ d, atI (rw.map D.int) (k : Int) = some (.int d) ∧ 0 ≤ d ∧ d < hd[k]
  t : ∀ d ∈ rw.drop hd.length, 0 ≤ d ∧ d < 1099511627776
theorem row_at (c : Int) (hd : List Int) {n : Nat} (hn : hd.length + n ≤ 1000) (hs : ∀ s ∈ hd, 0 < s ∧ s < 4611686018427387904) : ∃ rw : List Int, g_law_digits [(.N, .int c), (.N, szD (hd ++ bigL n))] = some (.N, .lst (rw.map D.int)) ∧ RowOk hd rw n := by
  have hsz : SizesOk (hd ++ bigL n) := by
    refine ⟨fun s h => ?_, by simp [bigL]; omega⟩
    rcases List.mem_append.mp h with h | h
    · exact hs s h
    · have := List.eq_of_mem_replicate h
      subst this
      decide
  have hlen := digitsM_len c (hd ++ bigL n)
  refine ⟨digitsM c (hd ++ bigL n), g_law_digits_at hsz, ⟨by rw [hlen]; simp [bigL], fun k hk => ?_, fun d hd' => ?_⟩⟩
  · obtain ⟨d, e, h1, h2⟩ := digitsM_get (c := c) hsz k (by simp [bigL]; omega)
    rw [List.getElem_append_left hk] at h2
    exact ⟨d, atI_nat (by rw [List.getElem?_map, e]; rfl), h1, h2⟩
  · obtain ⟨j, hj⟩ := List.mem_iff_getElem?.mp hd'
    have hj9 := (List.getElem?_eq_some_iff.mp hj).1
    rw [List.length_drop, hlen] at hj9
    obtain ⟨d', e, h1, h2⟩ := digitsM_get (c := c) hsz (hd.length + j) (by omega)
    rw [List.getElem?_drop, e] at hj
    cases hj
    rw [List.getElem_append_right (by omega)] at h2
    simp [bigL] at h2
    omega
theorem row_at0 (c : Int) (hd : List Int) (hn : hd.length ≤ 1000) (hs : ∀ s ∈ hd, 0 < s ∧ s < 4611686018427387904) : ∃ rw : List Int, g_law_digits [(.N, .int c), (.N, .lst (hd.map D.int))] = some (.N, .lst (rw.map D.int)) ∧ RowOk hd rw 0 := by
  obtain ⟨rw, h1, h2⟩ := row_at c hd (n := 0) (by omega) hs
  refine ⟨rw, ?_, h2⟩
  have : hd ++ bigL 0 = hd := by simp [bigL]
  rw [this] at h1
  exact h1
/-- words of digits -/
theorem anys_at (ds : List Int) (hds : ∀ d ∈ ds, 0 ≤ d ∧ d < 1099511627776) {m t : Int} (m0 : 0 ≤ m) (m1 : m < 1000) {fe : FE} {i : Nat} {env : Ev} (hf : ∀ d, 0 ≤ d ∧ d < 1099511627776 → Ok (setV i (.N, .int d) env) fun e => fe e = (g_law_any [(.N, .int d), (.N, .int m), (.N, .int t)]).map up) : ∃ ws : List Int, lcL sYes fe (setV i) env (ds.map fun a => (Tg.N, D.int a)) = some (ws.map fun a => (Tg.N, D.int a)) ∧ ws.length = ds.length := by
  obtain ⟨ws, q1, q2⟩ := lcL_mk D.int (fun _ _ => True) (fe := fe) (s := setV i) (env := env) (rs := ds.map fun a => (Tg.N, D.int a)) (fun r hr => by
    obtain ⟨a, ha, rfl⟩ := List.mem_map.mp hr
    obtain ⟨e, h1, h2⟩ := hf a (hds a ha)
    refine ⟨e, h1, ?_⟩
    obtain ⟨la, ua⟩ := hds a ha
    obtain ⟨r, hr, w, rfl⟩ := law_any_at (t := t) la ua m0 m1
    rw [hr] at h2
    exact ⟨_, h2, w, rfl, trivial⟩)
  exact ⟨ws, q1, by rw [q2.length]; simp⟩
theorem body_objs {ns : List Int} (hn : LawOk ns) {k m : Nat} (hk : k < 100) (hm : m ≤ 100) {t : Int} {os : List Ob} (hol : os.length = k) (ho : ∀ o ∈ os, ObS o) {s6 s7 s8 s9 : Sl} : Ok (B_law_objects_1 ⟨[.val .N (.scr (ns.map D.int)), .val .N (.int 10), .val .N (.int (m : Int)), .val .N (.int t), .own (os.map obLD), .val .N (.int (k : Int)), s6, s7, s8, s9], []⟩)
    fun o => ∃ f s6 s7 s8 s9, o = .nx ⟨[.val .N (.scr (ns.map D.int)), .val .N (.int 10), .val .N (.int (m : Int)), .val .N (.int t), .own ((os ++ [f]).map obLD), .val .N (.int (k : Int)), s6, s7, s8, s9], []⟩ ∧ ObS f := by
  obtain ⟨c, hc⟩ := cell_at hn .N (i := 10 + (k : Int)) (by omega) (by omega)
  obtain ⟨rw, hd, hrow⟩ := row_at c [8, 15] (n := 6) (by decide) (by decide)
  have hadd : oAdd (.N, .lst [.int 8, .int 15]) (.N, szD (bigL 6)) = some (.N, szD ([8, 15] ++ bigL 6)) := big_add [8, 15] (by decide)
  have hmul : oMulX (.N, .lst [.int 549755813888]) (.N, .int 6) = some (.N, szD (bigL 6)) := big_mul (n := 6) (by decide)
  generalize szD ([8, 15] ++ bigL 6) = S2 at *
  generalize szD (bigL 6) = S1 at *
  obtain ⟨a0, e0, l0, u0⟩ : ∃ d : Int, atI (rw.map D.int) 0 = some (.int d) ∧ 0 ≤ d ∧ d < 8 := hrow.h 0 (by decide)
  obtain ⟨a1, e1, l1, u1⟩ : ∃ d : Int, atI (rw.map D.int) 1 = some (.int d) ∧ 0 ≤ d ∧ d < 15 := hrow.h 1 (by decide)
  have hlen : rw.length = 8 := hrow.len
  obtain ⟨ws, q1, q2⟩ := anys_at (rw.drop 2) hrow.t (m := (m : Int)) (t := t) (by omega) (by omega) (fe := sCall g_law_any (sCons (sVar 8) (sCons (sVar 2) (sCons (sVar 3) sNil)))) (i := 8) (env := ⟨[.val .N (.scr (ns.map D.int)), .val .N (.int 10), .val .N (.int (m : Int)), .val .N (.int t), .own (os.map obLD), .val .N (.int (k : Int)), .val .N (.lst (rw.map D.int)), s7, .un, s9], []⟩) (fun d hd => by simp)
  have hcut1 : cutD (rw.map D.int) (some 2) none = (rw.drop 2).map D.int := by
    rw [show (2 : Int) = ((2 : Nat) : Int) from rfl, cutD_from, List.map_drop]
  obtain ⟨n1, hn1, en1⟩ := nats_at [1, 2, 3, 0, 2, 4, 1, 3, 5, 6, 2, 1, 2, 0, 1] (b := 6) (by decide) l1 (by simpa using u1)
  simp at en1
  have hcut2 : cutD (ws.map D.int) none (some (n1 : Int)) = (ws.take n1).map D.int := by rw [cutD_to, List.map_take]
  have hwl : (rw.drop 2).length ≤ lim := by rw [List.length_drop, hlen]; decide
  have hwsl : ws.length = 6 := by rw [q2, List.length_drop, hlen]
  have ll : 2 ≤ lim ∧ 15 ≤ lim ∧ 1 ≤ lim := by decide
  have hol' : os.length ≤ lim := by unfold lim; omega
  generalize hds : rw.drop 2 = ds at *
  by_cases hq : 0 < k ∧ 11 < a1
  · obtain ⟨hk0, ha⟩ := hq
    have hk1 : k - 1 < os.length := by omega
    have ea : atI (os.map obLD) ((k : Int) - 1) = some (obLD os[k - 1]) := by
      rw [show (k : Int) - 1 = ((k - 1 : Nat) : Int) by omega]
      exact atI_map hk1
    have om := ho _ (List.getElem_mem hk1)
    generalize os[k - 1] = o at *
    have i0 : ∀ a b : D, atI [a, b] 0 = some a := fun _ _ => rfl
    have i1 : ∀ a b : D, atI [a, b] 1 = some b := fun _ _ => rfl
    have hw2 := om.w2
    have hll : o.ws.length ≤ lim := by unfold lim; omega
    have hk0' : (0 : Int) < (k : Int) := by omega
    simp [B_law_objects_1, hc, hmul, hadd, hd, e0, e1, hcut1, q1, ea, ll, hol', hk0, ha, hk0', obLD, i0, i1, hwl, hll, -oMulX_lst, -List.map_drop, Function.comp_def]
    exact ⟨o, ⟨rfl, rfl⟩, om⟩
  · obtain ⟨r, hnm, z, rfl, hz1, hz2⟩ := law_name_at l0 u0 (decide (5 < t))
    have fo : ObS ⟨z, ws.take n1⟩ := ⟨hz1, hz2, by show (ws.take n1).length ≤ _; simp; omega⟩
    have hq' : ¬ ((0 : Int) < (k : Int) ∧ 11 < a1) := fun ⟨x, y⟩ => hq ⟨by omega, y⟩
    have hws2 : (ws.take n1).length ≤ lim := by simp; unfold lim; omega
    generalize hw9 : ws.take n1 = w9 at *
    by_cases hk0 : 0 < k
    · have ha : ¬ 11 < a1 := fun h => hq ⟨hk0, h⟩
      simp [B_law_objects_1, hc, hmul, hadd, hd, e0, e1, hcut1, hcut2, q1, en1, hnm, ll, hol', hk0, ha, hwl, -oMulX_lst, -List.map_drop, Function.comp_def]
      exact ⟨⟨z, w9⟩, rfl, fo⟩
    · simp [B_law_objects_1, hc, hmul, hadd, hd, e0, e1, hcut1, hcut2, q1, en1, hnm, ll, hol', hk0, hwl, -oMulX_lst, -List.map_drop, Function.comp_def]
      exact ⟨⟨z, w9⟩, rfl, fo⟩
end Lw
namespace Lw
open PySem L2 Vf
theorem law_objects_at {ns : List Int} (hn : LawOk ns) {m : Nat} (hm : m ≤ 14) (t : Int) : Ok (g_law_objects [(.N, .scr (ns.map D.int)), (.N, .int 10), (.N, .int (m : Int)), (.N, .int t)]) fun r => ∃ os : List Ob, r = (.N, .lst (os.map obLD)) ∧ os.length = m ∧ ∀ o ∈ os, ObS o := by
  unfold g_law_objects
  rw [gF_at (by rfl) (by rfl)]
  have hmi : (m : Int) < 4611686018427387904 := by omega
  simp [F_law_objects, hmi]
  refine forL_ok (fun k env => ∃ (os : List Ob) (s5 s6 s7 s8 s9 : Sl), env = ⟨[.val .N (.scr (ns.map D.int)), .val .N (.int 10), .val .N (.int (m : Int)), .val .N (.int t), .own (os.map obLD), s5, s6, s7, s8, s9], []⟩ ∧ os.length = k ∧ ∀ o ∈ os, ObS o) ⟨[], _, _, _, _, _, rfl, rfl, by simp⟩ ?_ ?_
  · rintro k r env hk ⟨os, s5, s6, s7, s8, s9, rfl, hol, hos⟩
    obtain ⟨hk9, rfl⟩ := iRng_get hk
    obtain ⟨o, ho, f, t6, t7, t8, t9, rfl, hf⟩ := body_objs hn (k := k) (m := m) (by omega) (by omega) (t := t) hol hos (s6 := s6) (s7 := s7) (s8 := s8) (s9 := s9)
    refine ⟨_, rfl, _, ho, os ++ [f], _, _, _, _, _, rfl, by simp [hol], fun g hg => ?_⟩
    rcases List.mem_append.mp hg with q | q
    · exact hos g q
    · simp at q
      subst q
      exact hf
  · rintro env ⟨os, s5, s6, s7, s8, s9, rfl, hol, hos⟩
    simp at hol
    simp
    exact ⟨os, rfl, hol, hos⟩
/-- a list of words -/
theorem law_list_at (c : Int) {m : Nat} (hm : m ≤ 14) (b : Bool) : Ok (g_law_list [(.N, .int c), (.N, .int (m : Int)), (.N, .bl b)]) fun r => ∃ ws : List Int, r = (.N, .lst (ws.map D.int)) ∧ ws.length ≤ 6 := by
  obtain ⟨rw, hd, hrow⟩ := row_at c [8] (n := 6) (by decide) (by decide)
  have hadd : oAdd (.N, .lst [.int 8]) (.N, szD (bigL 6)) = some (.N, szD ([8] ++ bigL 6)) := big_add [8] (by decide)
  have hmul : oMulX (.N, .lst [.int 549755813888]) (.N, .int 6) = some (.N, szD (bigL 6)) := big_mul (n := 6) (by decide)
  generalize szD ([8] ++ bigL 6) = S2 at *
  generalize szD (bigL 6) = S1 at *
  obtain ⟨a0, e0, l0, u0⟩ : ∃ d : Int, atI (rw.map D.int) 0 = some (.int d) ∧ 0 ≤ d ∧ d < 8 := hrow.h 0 (by decide)
  have hlen : rw.length = 7 := hrow.len
  obtain ⟨n1, hn1, en1⟩ := nats_at [1, 2, 0, 3, 1, 4, 2, 6] (b := 6) (by decide) l0 (by simpa using u0)
  simp at en1
  obtain ⟨ds, hds⟩ : ∃ ds, ds = (rw.drop 1).take n1 := ⟨_, rfl⟩
  have hcut : cutD (rw.map D.int) (some 1) (some (1 + (n1 : Int))) = ds.map D.int := by
    have := cutD_nat (rw.map D.int) 1 (1 + n1) (by simp [hlen]; omega)
    rw [show ((1 + n1 : Nat) : Int) = 1 + (n1 : Int) by omega, show ((1 : Nat) : Int) = 1 from rfl] at this
    rw [this, hds]
    simp [List.map_take, List.map_drop]
  have hdl : ds.length ≤ 6 := by rw [hds]; simp; omega
  have hdb : ∀ d ∈ ds, 0 ≤ d ∧ d < 1099511627776 := fun d h => hrow.t d (by rw [hds] at h; exact List.mem_of_mem_take h)
  have ll : 8 ≤ lim ∧ 1 ≤ lim := by decide
  have hdl' : ds.length ≤ lim := by unfold lim; omega
  unfold g_law_list
  rw [gF_at (by rfl) (by rfl)]
  cases b with
  | true =>
    obtain ⟨ws, q1, q2⟩ := anys_at ds hdb (m := (m : Int)) (t := 9) (by omega) (by omega) (fe := sCall g_law_any (sCons (sVar 5) (sCons (sVar 1) (sCons (sLit (.int 9)) sNil)))) (i := 5) (env := ⟨[.val .N (.int c), .val .N (.int (m : Int)), .val .N (.bl true), .val .N (.lst (rw.map D.int)), .val .N (.lst (ds.map D.int)), .un], []⟩) (fun d hd => by simp)
    simp [F_law_list, hmul, hadd, hd, e0, en1, hcut, q1, ll, hdl', -oMulX_lst, Function.comp_def]
    exact ⟨ws, rfl, by omega⟩
  | false =>
    by_cases h0 : m = 0
    · subst h0
      have q1 := lcL_fil (ct := sBl (sOp oGt (sVar 1) (sLit (.int 0)))) (fe := sOp oAdd (sOp oMulX (sLit (.int 2)) (sOp oMod (sB intB (sCons (sVar 5) sNil)) (sVar 1))) (sLit (.int 2))) (s := setV 5) (env := ⟨[.val .N (.int c), .val .N (.int 0), .val .N (.bl false), .val .N (.lst (rw.map D.int)), .val .N (.lst (ds.map D.int)), .un], []⟩) (p := fun _ => false) (F := fun _ => .non) (rs := ds.map fun a => (Tg.N, D.int a)) (fun r hr => by
        obtain ⟨a, ha, rfl⟩ := List.mem_map.mp hr
        simp)
      have e : (ds.map fun a => (Tg.N, D.int a)).filter (fun _ => false) = [] := by simp
      rw [e] at q1
      simp [F_law_list, hmul, hadd, hd, e0, en1, hcut, q1, ll, hdl', -oMulX_lst, Function.comp_def]
    · have hm0 : (0 : Int) < (m : Int) := by omega
      have hbit : ∀ a : Int, bitsOk 2 (a % (m : Int)) = true := fun a => by
        have a1 := Int.emod_nonneg a (show (m : Int) ≠ 0 by omega)
        have a2 := Int.emod_lt_of_pos a hm0
        exact bits_sm (by decide) (by decide) (by omega) (by omega)
      have q1 := lcL_fil (ct := sBl (sOp oGt (sVar 1) (sLit (.int 0)))) (fe := sOp oAdd (sOp oMulX (sLit (.int 2)) (sOp oMod (sB intB (sCons (sVar 5) sNil)) (sVar 1))) (sLit (.int 2))) (s := setV 5) (env := ⟨[.val .N (.int c), .val .N (.int (m : Int)), .val .N (.bl false), .val .N (.lst (rw.map D.int)), .val .N (.lst (ds.map D.int)), .un], []⟩) (p := fun _ => true) (F := fun r => match r.2 with | .int a => .int (2 * (a % (m : Int)) + 2) | _ => .non) (rs := ds.map fun a => (Tg.N, D.int a)) (fun r hr => by
        obtain ⟨a, ha, rfl⟩ := List.mem_map.mp hr
        have h9 : 0 < m := by omega
        simp [hm0, h9, hbit])
      have e : ((ds.map fun a => (Tg.N, D.int a)).filter (fun _ => true)) = ds.map fun a => (Tg.N, D.int a) := by simp
      rw [e, List.map_map] at q1
      simp only [Function.comp_def] at q1
      simp [F_law_list, hmul, hadd, hd, e0, en1, hcut, q1, ll, hdl', -oMulX_lst, Function.comp_def]
      exact ⟨ds.map fun a => 2 * (a % (m : Int)) + 2, by simp, by simpa using hdl⟩
/-- frames -/
theorem body_frs {ns : List Int} (hn : LawOk ns) {k m : Nat} (hk : k < 100) (hm : m ≤ 14) {t : Int} {b : Bool} {d1 d5 : D} {fs : List Fr} (hfs : fs.length ≤ 100) {s8 s9 s10 s11 s12 s13 s14 : Sl} : Ok (B_law_parts_1 ⟨[.val .N (.scr (ns.map D.int)), .val .N d1, .val .N (.int (m : Int)), .val .N (.bl b), .val .N (.int t), .val .N d5, .own (fs.map frLD), .val .N (.int (k : Int)), s8, s9, s10, s11, s12, s13, s14], []⟩)
    fun o => ∃ f s8 s9 s10 s11 s12, o = .nx ⟨[.val .N (.scr (ns.map D.int)), .val .N d1, .val .N (.int (m : Int)), .val .N (.bl b), .val .N (.int t), .val .N d5, .own ((fs ++ [f]).map frLD), .val .N (.int (k : Int)), s8, s9, s10, s11, s12, s13, s14], []⟩ ∧ FrS f := by
  obtain ⟨c, hc⟩ := cell_at hn .N (i := 2 + (k : Int)) (by omega) (by omega)
  obtain ⟨rw, hd, hrow⟩ := row_at c [6, 200, 6, 6] (n := 10) (by decide) (by decide)
  have hadd : oAdd (.N, .lst [.int 6, .int 200, .int 6, .int 6]) (.N, szD (bigL 10)) = some (.N, szD ([6, 200, 6, 6] ++ bigL 10)) := big_add [6, 200, 6, 6] (by decide)
  have hmul : oMulX (.N, .lst [.int 549755813888]) (.N, .int 10) = some (.N, szD (bigL 10)) := big_mul (n := 10) (by decide)
  generalize szD ([6, 200, 6, 6] ++ bigL 10) = S2 at *
  generalize szD (bigL 10) = S1 at *
  obtain ⟨a0, e0, l0, u0⟩ : ∃ d : Int, atI (rw.map D.int) 0 = some (.int d) ∧ 0 ≤ d ∧ d < 6 := hrow.h 0 (by decide)
  obtain ⟨a1, e1, l1, u1⟩ : ∃ d : Int, atI (rw.map D.int) 1 = some (.int d) ∧ 0 ≤ d ∧ d < 200 := hrow.h 1 (by decide)
  obtain ⟨a2, e2, l2, u2⟩ : ∃ d : Int, atI (rw.map D.int) 2 = some (.int d) ∧ 0 ≤ d ∧ d < 6 := hrow.h 2 (by decide)
  obtain ⟨a3, e3, l3, u3⟩ : ∃ d : Int, atI (rw.map D.int) 3 = some (.int d) ∧ 0 ≤ d ∧ d < 6 := hrow.h 3 (by decide)
  have hlen : rw.length = 14 := hrow.len
  obtain ⟨ws, q1, q2⟩ := anys_at (rw.drop 4) hrow.t (m := (m : Int)) (t := t) (by omega) (by omega) (fe := sCall g_law_any (sCons (sVar 10) (sCons (sVar 2) (sCons (sVar 4) sNil)))) (i := 10) (env := ⟨[.val .N (.scr (ns.map D.int)), .val .N d1, .val .N (.int (m : Int)), .val .N (.bl b), .val .N (.int t), .val .N d5, .own (fs.map frLD), .val .N (.int (k : Int)), .val .N (.lst (rw.map D.int)), s9, .un, s11, s12, s13, s14], []⟩) (fun d hd => by simp)
  have hcut1 : cutD (rw.map D.int) (some 4) none = (rw.drop 4).map D.int := by
    rw [show (4 : Int) = ((4 : Nat) : Int) from rfl, cutD_from, List.map_drop]
  obtain ⟨n1, hn1, en1⟩ := nats_at [2, 1, 3, 0, 5, 4] (b := 5) (by decide) l2 (by simpa using u2)
  obtain ⟨n2, hn2, en2⟩ := nats_at [1, 0, 2, 3, 1, 5] (b := 5) (by decide) l3 (by simpa using u3)
  simp at en1 en2
  have hwsl : ws.length = 10 := by rw [q2, List.length_drop, hlen]
  obtain ⟨sl, hsl⟩ : ∃ sl, sl = ws.take n1 := ⟨_, rfl⟩
  obtain ⟨sk, hsk⟩ : ∃ sk, sk = (ws.drop 5).take n2 := ⟨_, rfl⟩
  have hcut2 : cutD (ws.map D.int) none (some (n1 : Int)) = sl.map D.int := by rw [cutD_to, hsl, List.map_take]
  have hcut3 : cutD (ws.map D.int) (some 5) (some (5 + (n2 : Int))) = sk.map D.int := by
    have := cutD_nat (ws.map D.int) 5 (5 + n2) (by simp [hwsl]; omega)
    rw [show ((5 + n2 : Nat) : Int) = 5 + (n2 : Int) by omega, show ((5 : Nat) : Int) = 5 from rfl] at this
    rw [this, hsk]
    simp [List.map_take, List.map_drop]
  obtain ⟨r, hnm, z, rfl, hz1, hz2⟩ := law_name_at l0 (by omega : a0 < 8) b
  have hwl : (rw.drop 4).length ≤ lim := by rw [List.length_drop, hlen]; decide
  have ll : 4 ≤ lim ∧ 6 ≤ lim ∧ 2 ≤ lim ∧ 1 ≤ lim := by decide
  have hfl : fs.length ≤ lim := by unfold lim; omega
  have hb7 : bitsOk 7 a1 = true := bits_sm (by decide) (by decide) (by omega) (by omega)
  have fo : ∀ pl, FrS ⟨z, pl, sl, sk⟩ := fun pl => ⟨hz1, hz2, by show sl.length ≤ _; rw [hsl]; simp; omega, by show sk.length ≤ _; rw [hsk]; simp; omega⟩
  have i0 : ∀ a b : D, atI [a, b] 0 = some a := fun _ _ => rfl
  have i1 : ∀ a b : D, atI [a, b] 1 = some b := fun _ _ => rfl
  generalize hds : rw.drop 4 = ds at *
  cases b
  · simp [B_law_parts_1, hc, hmul, hadd, hd, e0, e1, e2, e3, hcut1, hcut2, hcut3, q1, en1, en2, hnm, ll, hfl, hwl, hb7, i0, i1, -oMulX_lst, -List.map_drop, Function.comp_def]
    exact ⟨⟨z, a1, sl, sk⟩, rfl, fo _⟩
  · simp [B_law_parts_1, hc, hmul, hadd, hd, e0, e1, e2, e3, hcut1, hcut2, hcut3, q1, en1, en2, hnm, ll, hfl, hwl, hb7, i0, i1, -oMulX_lst, -List.map_drop, Function.comp_def]
    exact ⟨⟨z, 300 - 7 * a1, sl, sk⟩, rfl, fo _⟩
def lsL (p : Pic) : List D := [.lst (p.st.map D.int), .lst (p.fr.map frLD), .lst (p.wa.map D.int), .lst (p.pa.map D.int), .lst (p.ob.map obLD)]
theorem law_parts_at {ns : List Int} (hn : LawOk ns) : Ok (g_law_parts [(.N, .scr (ns.map D.int))]) fun r => ∃ p, r = (.N, .lst (lsL p)) ∧ PicS p := by
  obtain ⟨c0, hc0⟩ := cell_at hn .N (i := 0) (by omega) (by omega)
  obtain ⟨c1, hc1⟩ := cell_at hn .N (i := 1) (by omega) (by omega)
  obtain ⟨c8, hc8⟩ := cell_at hn .N (i := 8) (by omega) (by omega)
  obtain ⟨c9, hc9⟩ := cell_at hn .N (i := 9) (by omega) (by omega)
  obtain ⟨hw, hd0, hrow0⟩ := row_at0 c0 [15, 6, 4, 7, 4] (by decide) (by decide)
  simp only [List.map_cons, List.map_nil] at hd0
  obtain ⟨h0, e0, l0, u0⟩ : ∃ d : Int, atI (hw.map D.int) 0 = some (.int d) ∧ 0 ≤ d ∧ d < 15 := hrow0.h 0 (by decide)
  obtain ⟨h1, e1, l1, u1⟩ : ∃ d : Int, atI (hw.map D.int) 1 = some (.int d) ∧ 0 ≤ d ∧ d < 6 := hrow0.h 1 (by decide)
  obtain ⟨h2, e2, l2, u2⟩ : ∃ d : Int, atI (hw.map D.int) 2 = some (.int d) ∧ 0 ≤ d ∧ d < 4 := hrow0.h 2 (by decide)
  obtain ⟨h3, e3, l3, u3⟩ : ∃ d : Int, atI (hw.map D.int) 3 = some (.int d) ∧ 0 ≤ d ∧ d < 7 := hrow0.h 3 (by decide)
  obtain ⟨h4, e4, l4, u4⟩ : ∃ d : Int, atI (hw.map D.int) 4 = some (.int d) ∧ 0 ≤ d ∧ d < 4 := hrow0.h 4 (by decide)
  obtain ⟨m, hm, em⟩ := nats_at [5, 8, 3, 12, 6, 14, 9, 1, 7, 10, 4, 13, 2, 11, 0] (b := 14) (by decide) l0 (by simpa using u0)
  obtain ⟨nf, hnf, enf⟩ := nats_at [2, 1, 3, 4, 5, 0] (b := 5) (by decide) l1 (by simpa using u1)
  obtain ⟨th, _, eth⟩ := nats_at [3, 4, 2, 5] (b := 5) (by decide) l2 (by simpa using u2)
  simp at em enf eth
  obtain ⟨b, hb⟩ : ∃ b : Bool, b = decide (h4 = 3) := ⟨_, rfl⟩
  obtain ⟨t, ht⟩ : ∃ t : Int, t = (th : Int) + 6 * (if b then 1 else 0) := ⟨_, rfl⟩
  obtain ⟨r, ho, os, rfl, hol, hos⟩ := law_objects_at hn hm t
  obtain ⟨r, ha8, w8, rfl, hw8⟩ := law_list_at c8 hm b
  obtain ⟨r, ha9, w9, rfl, hw9⟩ := law_list_at c9 hm b
  obtain ⟨rw, hd1, hrow⟩ := row_at c1 [] (n := 6) (by decide) (by decide)
  have hmul : oMulX (.N, .lst [.int 549755813888]) (.N, .int 6) = some (.N, szD (bigL 6)) := big_mul (n := 6) (by decide)
  have hd1 : g_law_digits [(.N, .int c1), (.N, szD (bigL 6))] = some (.N, .lst (rw.map D.int)) := by simpa using hd1
  generalize szD (bigL 6) = S1 at *
  have hlen : rw.length = 6 := hrow.len
  obtain ⟨n3, hn3⟩ : ∃ n : Nat, h3 = (n : Int) := ⟨h3.toNat, by omega⟩
  obtain ⟨ds, hds⟩ : ∃ ds, ds = rw.take n3 := ⟨_, rfl⟩
  have hcut : cutD (rw.map D.int) none (some (n3 : Int)) = ds.map D.int := by rw [cutD_to, hds, List.map_take]
  have hdb : ∀ d ∈ ds, 0 ≤ d ∧ d < 1099511627776 := fun d h => hrow.t d (by rw [hds] at h; exact List.mem_of_mem_take h)
  have hdl : ds.length ≤ 6 := by rw [hds]; simp; omega
  have hdl' : ds.length ≤ lim := by unfold lim; omega
  have ll : 5 ≤ lim ∧ 15 ≤ lim ∧ 4 ≤ lim ∧ 6 ≤ lim ∧ 2 ≤ lim ∧ 1 ≤ lim := by decide
  have hb6 : bitsOk 6 (if b then 1 else 0) = true := by cases b <;> exact bits_sm (by decide) (by decide) (by decide) (by decide)
  have i0 : ∀ a b : D, atI [a, b] 0 = some a := fun _ _ => rfl
  have i1 : ∀ a b : D, atI [a, b] 1 = some b := fun _ _ => rfl
  subst hn3
  have ho' : g_law_objects [(.N, .scr (ns.map D.int)), (.N, .int 10), (.N, .int (m : Int)), (.N, .int ((th : Int) + 6 * (if b then 1 else 0)))] = some (.N, .lst (os.map obLD)) := by rw [← ht]; exact ho
  have hnfi : (nf : Int) < 4611686018427387904 := by omega
  unfold g_law_parts
  rw [gF_at (by rfl) (by rfl)]
  have hb' : (decide (h4 = 3)) = b := hb.symm
  rw [Ok_bind]
  unfold F_law_parts
  refine sq_step (P := fun o => o = .nx ⟨[.val .N (.scr (ns.map D.int)), .val .N (.lst (hw.map D.int)), .un, .un, .un, .un, .un, .un, .un, .un, .un, .un, .un, .un, .un], []⟩) ?_ ?_
  · simp [hc0, hd0, ll]
  rintro o rfl
  refine ⟨_, rfl, ?_⟩
  refine sq_step (P := fun o => o = .nx ⟨[.val .N (.scr (ns.map D.int)), .val .N (.lst (hw.map D.int)), .val .N (.int (m : Int)), .un, .un, .un, .un, .un, .un, .un, .un, .un, .un, .un, .un], []⟩) ?_ ?_
  · simp [e0, em, ll]
  rintro o rfl
  refine ⟨_, rfl, ?_⟩
  refine sq_step (P := fun o => o = .nx ⟨[.val .N (.scr (ns.map D.int)), .val .N (.lst (hw.map D.int)), .val .N (.int (m : Int)), .val .N (.bl b), .un, .un, .un, .un, .un, .un, .un, .un, .un, .un, .un], []⟩) ?_ ?_
  · simp [e4, hb', ll, -decide_eq_true_eq]
  rintro o rfl
  refine ⟨_, rfl, ?_⟩
  refine sq_step (P := fun o => o = .nx ⟨[.val .N (.scr (ns.map D.int)), .val .N (.lst (hw.map D.int)), .val .N (.int (m : Int)), .val .N (.bl b), .val .N (.int t), .un, .un, .un, .un, .un, .un, .un, .un, .un, .un], []⟩) ?_ ?_
  · simp [e2, eth, ll, hb6, ht]
  rintro o rfl
  refine ⟨_, rfl, ?_⟩
  refine sq_step (P := fun o => o = .nx ⟨[.val .N (.scr (ns.map D.int)), .val .N (.lst (hw.map D.int)), .val .N (.int (m : Int)), .val .N (.bl b), .val .N (.int t), .val .N (.lst (os.map obLD)), .un, .un, .un, .un, .un, .un, .un, .un, .un], []⟩) ?_ ?_
  · simp [ho]
  rintro o rfl
  refine ⟨_, rfl, ?_⟩
  refine sq_step (P := fun o => o = .nx ⟨[.val .N (.scr (ns.map D.int)), .val .N (.lst (hw.map D.int)), .val .N (.int (m : Int)), .val .N (.bl b), .val .N (.int t), .val .N (.lst (os.map obLD)), .own [], .un, .un, .un, .un, .un, .un, .un, .un], []⟩) ?_ ?_
  · simp [ll]
  rintro o rfl
  refine ⟨_, rfl, ?_⟩
  refine sq_step (P := fun o => ∃ (fs : List Fr) (s7 s8 s9 s10 s11 s12 : Sl), o = .nx ⟨[.val .N (.scr (ns.map D.int)), .val .N (.lst (hw.map D.int)), .val .N (.int (m : Int)), .val .N (.bl b), .val .N (.int t), .val .N (.lst (os.map obLD)), .own (fs.map frLD), s7, s8, s9, s10, s11, s12, .un, .un], []⟩ ∧ fs.length = nf ∧ ∀ f ∈ fs, FrS f) ?_ ?_
  · simp [e1, enf, ll, hnfi]
    refine forL_ok (fun k env => ∃ (fs : List Fr) (s7 s8 s9 s10 s11 s12 : Sl), env = ⟨[.val .N (.scr (ns.map D.int)), .val .N (.lst (hw.map D.int)), .val .N (.int (m : Int)), .val .N (.bl b), .val .N (.int t), .val .N (.lst (os.map obLD)), .own (fs.map frLD), s7, s8, s9, s10, s11, s12, .un, .un], []⟩ ∧ fs.length = k ∧ ∀ f ∈ fs, FrS f) ⟨[], _, _, _, _, _, _, rfl, rfl, by simp⟩ ?_ ?_
    · rintro k r env hk ⟨fs, s7, s8, s9, s10, s11, s12, rfl, hfl, hfs⟩
      obtain ⟨hk9, rfl⟩ := iRng_get hk
      obtain ⟨o, ho, f, t8, t9, t10, t11, t12, rfl, hf⟩ := body_frs hn (k := k) (m := m) (by omega) hm (t := t) (b := b) (d1 := .lst (hw.map D.int)) (d5 := .lst (os.map obLD)) (fs := fs) (by omega) (s8 := s8) (s9 := s9) (s10 := s10) (s11 := s11) (s12 := s12) (s13 := .un) (s14 := .un)
      refine ⟨_, rfl, _, ho, fs ++ [f], _, _, _, _, _, _, rfl, by simp [hfl], fun g hg => ?_⟩
      rcases List.mem_append.mp hg with q | q
      · exact hfs g q
      · simp at q
        subst q
        exact hf
    · rintro env ⟨fs, s7, s8, s9, s10, s11, s12, rfl, hfl, hfs⟩
      exact ⟨fs, ⟨_, _, _, _, _, _, rfl⟩, by simpa using hfl, hfs⟩
  rintro o ⟨fs, s7, s8, s9, s10, s11, s12, rfl, hfl, hfs⟩
  refine ⟨_, rfl, ?_⟩
  refine sq_step (P := fun o => o = .nx ⟨[.val .N (.scr (ns.map D.int)), .val .N (.lst (hw.map D.int)), .val .N (.int (m : Int)), .val .N (.bl b), .val .N (.int t), .val .N (.lst (os.map obLD)), .own (fs.map frLD), s7, .val .N (.lst (rw.map D.int)), s9, s10, s11, s12, .un, .un], []⟩) ?_ ?_
  · simp [hc1, hmul, hd1, ll, -oMulX_lst]
  rintro o rfl
  refine ⟨_, rfl, ?_⟩
  obtain ⟨ws, q1, q2⟩ := anys_at ds hdb (m := (m : Int)) (t := t) (by omega) (by omega) (fe := sCall g_law_any (sCons (sVar 10) (sCons (sVar 2) (sCons (sVar 4) sNil)))) (i := 10) (env := ⟨[.val .N (.scr (ns.map D.int)), .val .N (.lst (hw.map D.int)), .val .N (.int (m : Int)), .val .N (.bl b), .val .N (.int t), .val .N (.lst (os.map obLD)), .own (fs.map frLD), s7, .val .N (.lst (rw.map D.int)), s9, .un, s11, s12, .un, .un], []⟩) (fun d hd => by simp)
  have hwsl : ws.length ≤ 6 := by omega
  refine sq_step (P := fun o => o = .nx ⟨[.val .N (.scr (ns.map D.int)), .val .N (.lst (hw.map D.int)), .val .N (.int (m : Int)), .val .N (.bl b), .val .N (.int t), .val .N (.lst (os.map obLD)), .own (fs.map frLD), s7, .val .N (.lst (rw.map D.int)), s9, s10, s11, s12, .val .N (.lst (ws.map D.int)), .un], []⟩) ?_ ?_
  · simp [e3, hcut, q1, ll, hdl', Function.comp_def]
  rintro o rfl
  refine ⟨_, rfl, ?_⟩
  refine sq_step (P := fun o => o = .nx ⟨[.val .N (.scr (ns.map D.int)), .val .N (.lst (hw.map D.int)), .val .N (.int (m : Int)), .val .N (.bl b), .val .N (.int t), .val .N (.lst (os.map obLD)), .own (fs.map frLD), s7, .val .N (.lst (rw.map D.int)), s9, s10, s11, s12, .val .N (.lst (ws.map D.int)), .val .N (.lst [.lst (w8.map D.int), .lst (w9.map D.int)])], []⟩) ?_ ?_
  · simp [hc8, hc9, ha8, ha9, ll]
  rintro o rfl
  refine ⟨_, rfl, ?_⟩
  have hrep : ∀ n : Nat, n ≤ 9 → oMulX (.O, .lst (fs.map frLD)) (.N, .int (n : Int)) = some (.N, .lst (((List.replicate n fs).flatten).map frLD)) := fun n hn9 => by
    have : fs.length * n ≤ 5 * 9 := Nat.mul_le_mul (by omega) hn9
    rw [oMulX_lst, oMul_lst (by simp [lim]; omega), List.map_flatten, List.map_replicate]
    rfl
  have hp : ∀ n : Nat, n ≤ 9 → PicS ⟨ws, (List.replicate n fs).flatten, w8, w9, os⟩ := fun n hn9 => by
    have : fs.length * n ≤ 5 * 9 := Nat.mul_le_mul (by omega) hn9
    refine ⟨by show ws.length ≤ _; omega, fun f hf => ?_, ?_, by show w8.length ≤ _; omega, by show w9.length ≤ _; omega, hos, by show os.length ≤ _; omega⟩
    · obtain ⟨l, hl, h2⟩ := List.mem_flatten.mp hf
      have := List.eq_of_mem_replicate hl
      subst this
      exact hfs f h2
    · show ((List.replicate n fs).flatten).length ≤ 3000
      simp
      have : n * fs.length = fs.length * n := Nat.mul_comm _ _
      omega
  have r1 := hrep 1 (by decide)
  have r9 := hrep 9 (by decide)
  have hp1 := hp 1 (by decide)
  have hp9 := hp 9 (by decide)
  generalize (List.replicate 1 fs).flatten = g1 at *
  generalize (List.replicate 9 fs).flatten = g9 at *
  have r1 : oMulX (.O, .lst (fs.map frLD)) (.N, .int 1) = some (.N, .lst (g1.map frLD)) := r1
  have r9 : oMulX (.O, .lst (fs.map frLD)) (.N, .int 9) = some (.N, .lst (g9.map frLD)) := r9
  cases b
  · simp [ll, i0, i1, r1, -oMulX_lst]
    exact ⟨_, rfl, hp1⟩
  · simp [ll, i0, i1, r9, -oMulX_lst]
    exact ⟨_, rfl, hp9⟩
end Lw
namespace Lw
open PySem L2 Vf
/-! what is shown -/
theorem setTup_eq {n : Nat} {l : List TD → Ev → Option Ev} {r : TD} {env : Ev} : setTup n l r env = (unp r).bind fun rs => if rs.length = n then l rs env else none := rfl
theorem whole_at (i : Int) : g_law_whole [(.N, .int i)] = some (.N, .bl true) := rfl
theorem numbers_at (ns : List Int) (hl : ns.length ≤ lim) : g_law_numbers [(.N, iT ns), (.N, iT ns)] = some (.N, .bl true) := by
  have hli : (ns.length : Int) < 4611686018427387904 := by unfold lim at hl; omega
  unfold g_law_numbers
  refine (gF_at (by rfl) (by rfl)).trans (Ok.eq ?_)
  rw [Ok_bind]
  unfold F_law_numbers
  refine sq_step (P := fun o => o = .nx ⟨[.val .N (iT ns), .val .N (iT ns), .un], []⟩) ?_ ?_
  · simp [hl]
  rintro o rfl
  refine ⟨_, rfl, ?_⟩
  refine sq_step (P := fun o => ∃ s2, o = .nx ⟨[.val .N (iT ns), .val .N (iT ns), s2], []⟩) ?_ ?_
  · simp [hl, hli]
    refine forL_ok (fun k env => ∃ s2, env = ⟨[.val .N (iT ns), .val .N (iT ns), s2], []⟩) ⟨_, rfl⟩ ?_ ?_
    · rintro k r env hk ⟨s2, rfl⟩
      obtain ⟨hk9, rfl⟩ := iRng_get hk
      have e : atI (ns.map D.int) (k : Int) = some (.int ns[k]) := atI_map hk9
      simp [B_law_numbers_1, e, whole_at]
    · rintro env ⟨s2, rfl⟩
      exact ⟨_, rfl⟩
  rintro o ⟨s2, rfl⟩
  refine ⟨_, rfl, ?_⟩
  simp
theorem things_at {os : List Ob} (ho : ∀ o ∈ os, ObOk o) (hl : os.length ≤ lim) : g_law_things [(.N, .tup (os.map obD)), (.N, .tup (os.map obD))] = some (.N, .bl true) := by
  have hli : (os.length : Int) < 4611686018427387904 := by unfold lim at hl; omega
  have l2 : 2 ≤ lim := by decide
  unfold g_law_things
  refine (gF_at (by rfl) (by rfl)).trans (Ok.eq ?_)
  rw [Ok_bind]
  unfold F_law_things
  refine sq_step (P := fun o => o = .nx ⟨[.val .N (.tup (os.map obD)), .val .N (.tup (os.map obD)), .un], []⟩) ?_ ?_
  · simp [hl]
  rintro o rfl
  refine ⟨_, rfl, ?_⟩
  refine sq_step (P := fun o => ∃ s2, o = .nx ⟨[.val .N (.tup (os.map obD)), .val .N (.tup (os.map obD)), s2], []⟩) ?_ ?_
  · simp [hl, hli]
    refine forL_ok (fun k env => ∃ s2, env = ⟨[.val .N (.tup (os.map obD)), .val .N (.tup (os.map obD)), s2], []⟩) ⟨_, rfl⟩ ?_ ?_
    · rintro k r env hk ⟨s2, rfl⟩
      obtain ⟨hk9, rfl⟩ := iRng_get hk
      have e : atI (os.map obD) (k : Int) = some (obD os[k]) := atI_map hk9
      have om := ho _ (List.getElem_mem hk9)
      generalize os[k] = o at *
      have w2 := om.w2
      have hn := numbers_at o.ws (by unfold lim; omega)
      have i0 : ∀ a b : D, atI [a, b] 0 = some a := fun _ _ => rfl
      have i1 : ∀ a b : D, atI [a, b] 1 = some b := fun _ _ => rfl
      simp only [obD] at e
      simp [B_law_things_1, e, i0, i1, hn, l2]
    · rintro env ⟨s2, rfl⟩
      exact ⟨_, rfl⟩
  rintro o ⟨s2, rfl⟩
  refine ⟨_, rfl, ?_⟩
  simp
/-- the rows of roots -/
def frR (f : Fr) : List (List Int) := [f.sl, f.sk]
def rowsL (p : Pic) : List (List Int) := p.st :: (p.fr.map frR).flatten ++ [p.wa, p.pa]
theorem frR_len (fs : List Fr) : ((fs.map frR).flatten).length = 2 * fs.length := by
  induction fs with
  | nil => rfl
  | cons f fs ih => rw [List.map_cons, List.flatten_cons, List.length_append, ih, List.length_cons]; simp [frR]; omega
theorem rowsL_len (p : Pic) : (rowsL p).length = 2 * p.fr.length + 3 := by
  unfold rowsL
  simp only [List.length_append, List.length_cons, frR_len, List.length_nil]
theorem rowsL_ok {p : Pic} (hp : PicOk p) : ∀ r ∈ rowsL p, r.length ≤ 5000 := by
  intro r hr
  unfold rowsL at hr
  rcases List.mem_append.mp hr with h | h
  · rcases List.mem_cons.mp h with rfl | h
    · exact hp.st2
    · obtain ⟨l, hl, h2⟩ := List.mem_flatten.mp h
      obtain ⟨f, hf, rfl⟩ := List.mem_map.mp hl
      have fo := hp.fr1 f hf
      simp [frR] at h2
      rcases h2 with rfl | rfl
      · exact fo.s2
      · exact fo.k2
  · simp at h
    rcases h with rfl | rfl
    · exact hp.wa2
    · exact hp.pa2
theorem take_flat {p : Pic} {k : Nat} {f : Fr} (hf : p.fr[k]? = some f) : ((p.fr.take (k + 1)).map frR).flatten = ((p.fr.take k).map frR).flatten ++ [f.sl, f.sk] := by
  rw [List.take_succ, hf]
  simp [frR]
theorem law_rows_at {p : Pic} (hp : PicOk p) : g_law_rows [(.N, pD p)] = some (.N, .lst ((rowsL p).map iT)) := by
  have hf2 := hp.fr2
  have l2 : 2 ≤ lim ∧ 1 ≤ lim := by decide
  unfold g_law_rows
  refine (gF_at (by rfl) (by rfl)).trans (Ok.eq ?_)
  rw [Ok_bind]
  unfold F_law_rows
  refine sq_step (P := fun o => o = .nx ⟨[.val .N (.tup (pL p)), .val .N (.lst [iT p.st]), .un], []⟩) ?_ ?_
  · simp [pD, l2]
  rintro o rfl
  refine ⟨_, rfl, ?_⟩
  refine sq_step (P := fun o => ∃ s2, o = .nx ⟨[.val .N (.tup (pL p)), .val .N (.lst ((p.st :: (p.fr.map frR).flatten).map iT)), s2], []⟩) ?_ ?_
  · simp [-List.map_cons, -List.map_flatten]
    refine forL_ok (fun k env => ∃ s2, env = ⟨[.val .N (.tup (pL p)), .val .N (.lst ((p.st :: ((p.fr.take k).map frR).flatten).map iT)), s2], []⟩) ⟨_, by simp; rfl⟩ ?_ ?_
    · rintro k r env hk ⟨s2, rfl⟩
      rw [List.getElem?_map] at hk
      obtain ⟨f, hf, rfl⟩ := Option.map_eq_some_iff.mp hk
      have hk9 := (List.getElem?_eq_some_iff.mp hf).1
      have i2 : atI [D.str f.name, .int f.place, iT f.sl, iT f.sk] 2 = some (iT f.sl) := rfl
      have i3 : atI [D.str f.name, .int f.place, iT f.sl, iT f.sk] 3 = some (iT f.sk) := rfl
      have hfl := frR_len (p.fr.take k)
      have hle : ((p.st :: ((p.fr.take k).map frR).flatten).map iT).length + 2 ≤ lim := by
        simp only [List.length_map, List.length_cons, hfl, List.length_take]
        unfold lim
        omega
      rw [take_flat hf]
      have e : (p.st :: (((p.fr.take k).map frR).flatten ++ [f.sl, f.sk])).map iT = (p.st :: ((p.fr.take k).map frR).flatten).map iT ++ [iT f.sl, iT f.sk] := by simp
      rw [e]
      generalize (p.st :: ((p.fr.take k).map frR).flatten).map iT = base at *
      simp [B_law_rows_1, frD, i2, i3, l2, hle]
    · rintro env ⟨s2, rfl⟩
      rw [List.length_map, List.take_length]
      exact ⟨_, rfl⟩
  rintro o ⟨s2, rfl⟩
  refine ⟨_, rfl, ?_⟩
  have hfl := frR_len p.fr
  have hle : ((p.st :: (p.fr.map frR).flatten).map iT).length + 2 ≤ lim := by
    simp only [List.length_map, List.length_cons, hfl]
    unfold lim
    omega
  have e : (rowsL p).map iT = (p.st :: (p.fr.map frR).flatten).map iT ++ [iT p.wa, iT p.pa] := by simp [rowsL]
  rw [e]
  generalize (p.st :: (p.fr.map frR).flatten).map iT = base at *
  simp [l2, hle]
theorem root_rows_at {p : Pic} (hp : PicOk p) : g_root_rows [(.N, iT p.st), (.N, .tup (p.fr.map frD)), (.N, iT p.wa), (.N, iT p.pa)] = some (.N, .tup ((rowsL p).map iT)) := by
  have hf2 := hp.fr2
  have l2 : 2 ≤ lim ∧ 1 ≤ lim := by decide
  unfold g_root_rows
  refine (gF_at (by rfl) (by rfl)).trans (Ok.eq ?_)
  rw [Ok_bind]
  unfold F_root_rows
  refine sq_step (P := fun o => o = .nx ⟨[.val .N (iT p.st), .val .N (.tup (p.fr.map frD)), .val .N (iT p.wa), .val .N (iT p.pa), .own [iT p.st], .un, .un, .un], []⟩) ?_ ?_
  · simp [l2]
  rintro o rfl
  refine ⟨_, rfl, ?_⟩
  refine sq_step (P := fun o => ∃ s5 s6 s7, o = .nx ⟨[.val .N (iT p.st), .val .N (.tup (p.fr.map frD)), .val .N (iT p.wa), .val .N (iT p.pa), .own ((p.st :: (p.fr.map frR).flatten).map iT), s5, s6, s7], []⟩) ?_ ?_
  · simp [-List.map_cons, -List.map_flatten]
    refine forL_ok (fun k env => ∃ s5 s6 s7, env = ⟨[.val .N (iT p.st), .val .N (.tup (p.fr.map frD)), .val .N (iT p.wa), .val .N (iT p.pa), .own ((p.st :: ((p.fr.take k).map frR).flatten).map iT), s5, s6, s7], []⟩) ⟨_, _, _, by simp; exact ⟨rfl, rfl, rfl⟩⟩ ?_ ?_
    · rintro k r env hk ⟨s5, s6, s7, rfl⟩
      rw [List.getElem?_map] at hk
      obtain ⟨f, hf, rfl⟩ := Option.map_eq_some_iff.mp hk
      have hk9 := (List.getElem?_eq_some_iff.mp hf).1
      have hfl := frR_len (p.fr.take k)
      have hle : ((p.st :: ((p.fr.take k).map frR).flatten).map iT).length + 2 ≤ lim := by
        simp only [List.length_map, List.length_cons, hfl, List.length_take]
        unfold lim
        omega
      rw [take_flat hf]
      have e : (p.st :: (((p.fr.take k).map frR).flatten ++ [f.sl, f.sk])).map iT = (p.st :: ((p.fr.take k).map frR).flatten).map iT ++ [iT f.sl, iT f.sk] := by simp
      rw [e]
      generalize (p.st :: ((p.fr.take k).map frR).flatten).map iT = base at *
      simp [B_root_rows_1, frD, setTup_eq, unp, l2, hle]
    · rintro env ⟨s5, s6, s7, rfl⟩
      rw [List.length_map, List.take_length]
      exact ⟨_, _, _, rfl⟩
  rintro o ⟨s5, s6, s7, rfl⟩
  refine ⟨_, rfl, ?_⟩
  have hfl := frR_len p.fr
  have hle : ((p.st :: (p.fr.map frR).flatten).map iT).length + 2 ≤ lim := by
    simp only [List.length_map, List.length_cons, hfl]
    unfold lim
    omega
  have e : (rowsL p).map iT = (p.st :: (p.fr.map frR).flatten).map iT ++ [iT p.wa, iT p.pa] := by simp [rowsL]
  rw [e]
  generalize (p.st :: (p.fr.map frR).flatten).map iT = base at *
  refine sq_step (P := fun o => o = .nx ⟨[.val .N (iT p.st), .val .N (.tup (p.fr.map frD)), .val .N (iT p.wa), .val .N (iT p.pa), .own (base ++ [iT p.wa, iT p.pa]), s5, s6, s7], []⟩) ?_ ?_
  · simp [l2, hle]
  rintro o rfl
  refine ⟨_, rfl, ?_⟩
  simp
theorem rows_at {T : Tb} {n : Nat} {p : Pic} (hp : PicOk p) (h : T[n]? = some (some (picM p))) : g_Picture_rows [.ob n] T = some (.val (.pu (.tup ((rowsL p).map iT))) T) := by
  obtain ⟨f1, f2, f3, f4, f5⟩ := fld_pic h
  have hr := root_rows_at hp
  unfold g_Picture_rows
  refine (gFX_at (by rfl)).trans (Ok.eq ?_)
  simp [F_Picture_rows, f1, f2, f3, f4, hr]
theorem parts_at {T : Tb} {n : Nat} {p : Pic} (h : T[n]? = some (some (picM p))) : g_picture_parts [.ob n] T = some (.val (.pu (pD p)) T) := by
  obtain ⟨f1, f2, f3, f4, f5⟩ := fld_pic h
  have l5 : 5 ≤ lim := by decide
  unfold g_picture_parts
  refine (gFX_at (by rfl)).trans (Ok.eq ?_)
  simp [F_picture_parts, f1, f2, f3, f4, f5, tupK, l5, pD, pL]
theorem ins_pic {T : Tb} {n : Nat} {p : Pic} (h : T[n]? = some (some (picM p))) : insOf T (.ob n) = some (("Picture" : Str), (["statics", "frames", "watched", "parted", "objects"] : List Str)) := by
  unfold insOf
  dsimp only
  rw [h]
  rfl
theorem eq_at {T : Tb} {n m : Nat} {p q : Pic} {b : Bool} (h : T[n]? = some (some (picM p))) (h2 : T[m]? = some (some (picM q))) (he : eqD (pD p) (pD q) = some b) : g_Picture_eq [.ob n, .ob m] T = some (.val (.pu (.bl b)) T) := by
  have e1 := parts_at h
  have e2 := parts_at h2
  have e3 := ins_pic h2
  unfold g_Picture_eq
  refine (gFX_at (by rfl)).trans (Ok.eq ?_)
  simp [F_Picture_eq, isoX, e1, e2, e3, he]
theorem eqo_at {T : Tb} {n m : Nat} {p q : Pic} {b : Bool} (h : T[n]? = some (some (picM p))) (h2 : T[m]? = some (some (picM q))) (he : eqD (pD p) (pD q) = some b) : eqoK "Picture" g_Picture_eq (.ob n) (.ob m) T = some (.val (.pu (.bl b)) T) := by
  unfold eqoK
  rw [ins_pic h, ins_pic h2, Option.bind_some, Option.bind_some, eq_at h h2 he]
  rfl
/-- the same, looked at -/
theorem shows_at {T : Tb} {n : Nat} {p : Pic} (hp : PicOk p) (h : T[n]? = some (some (picM p))) : g_law_shows [.ob n, .pu (pD p)] T = some (.val (.pu (.bl true)) T) := by
  obtain ⟨f1, f2, f3, f4, f5⟩ := fld_pic h
  have hst := hp.st2
  have hwa := hp.wa2
  have hpa := hp.pa2
  have hob := hp.ob2
  have hfr := hp.fr2
  have n1 := numbers_at p.st (by unfold lim; omega)
  have n2 := numbers_at p.wa (by unfold lim; omega)
  have n3 := numbers_at p.pa (by unfold lim; omega)
  have n4 := things_at hp.ob1 (by unfold lim; omega)
  have hfl : p.fr.length ≤ lim := by unfold lim; omega
  have hfi : (p.fr.length : Int) < 4611686018427387904 := by omega
  have hrl := rowsL_len p
  have hrl1 : (rowsL p).length ≤ lim := by unfold lim; omega
  have hri : ((rowsL p).length : Int) < 4611686018427387904 := by omega
  have hrw := rows_at hp h
  have hlr := law_rows_at hp
  have hin := ins_pic h
  have l4 : 4 ≤ lim := by decide
  simp only [pD] at hlr
  unfold g_law_shows
  refine (gFX_at (by rfl)).trans (Ok.eq ?_)
  rw [Ok_bind]
  unfold F_law_shows
  simp only [pD]
  refine seq_step (P := fun o => o = .nx ⟨[.han n, .val .N (.tup (pL p)), .un, .un, .un, .un, .un], T⟩) ?_ ?_
  · simp [f1, f3, n1, n2]
  rintro o rfl
  refine ⟨_, rfl, ?_⟩
  refine seq_step (P := fun o => o = .nx ⟨[.han n, .val .N (.tup (pL p)), .un, .un, .un, .un, .un], T⟩) ?_ ?_
  · simp [f4, f5, n3, n4]
  rintro o rfl
  refine ⟨_, rfl, ?_⟩
  refine seq_step (P := fun o => o = .nx ⟨[.han n, .val .N (.tup (pL p)), .val .N (.tup (p.fr.map frD)), .un, .un, .un, .un], T⟩) ?_ ?_
  · simp [f2]
  rintro o rfl
  refine ⟨_, rfl, ?_⟩
  refine seq_step (P := fun o => o = .nx ⟨[.han n, .val .N (.tup (pL p)), .val .N (.tup (p.fr.map frD)), .un, .un, .un, .un], T⟩) ?_ ?_
  · simp [hfl]
  rintro o rfl
  refine ⟨_, rfl, ?_⟩
  refine seq_step (P := fun o => ∃ s3 s4, o = .nx ⟨[.han n, .val .N (.tup (pL p)), .val .N (.tup (p.fr.map frD)), s3, s4, .un, .un], T⟩) ?_ ?_
  · simp [hfl, hfi]
    refine forZ_ok (fun k env => ∃ s3 s4, env = ⟨[.han n, .val .N (.tup (pL p)), .val .N (.tup (p.fr.map frD)), s3, s4, .un, .un], T⟩) ⟨_, _, rfl⟩ ?_ ?_
    · rintro k r env hk ⟨s3, s4, rfl⟩
      obtain ⟨hk9, rfl⟩ := iRng_get hk
      have e : atI (p.fr.map frD) (k : Int) = some (frD p.fr[k]) := atI_map hk9
      have fo := hp.fr1 _ (List.getElem_mem hk9)
      generalize p.fr[k] = f at *
      have w2 := fo.s2
      have w3 := fo.k2
      have m1 := numbers_at f.sl (by unfold lim; omega)
      have m2 := numbers_at f.sk (by unfold lim; omega)
      have i0 : atI [D.str f.name, .int f.place, iT f.sl, iT f.sk] 0 = some (.str f.name) := rfl
      have i1 : atI [D.str f.name, .int f.place, iT f.sl, iT f.sk] 1 = some (.int f.place) := rfl
      have i2 : atI [D.str f.name, .int f.place, iT f.sl, iT f.sk] 2 = some (iT f.sl) := rfl
      have i3 : atI [D.str f.name, .int f.place, iT f.sl, iT f.sk] 3 = some (iT f.sk) := rfl
      simp only [frD] at e
      unfold B_law_shows_1
      refine ⟨_, rfl, ?_⟩
      refine seq_step (P := fun o => o = .nx ⟨[.han n, .val .N (.tup (pL p)), .val .N (.tup (p.fr.map frD)), .val .N (.int (k : Int)), .val .N (.tup [.str f.name, .int f.place, iT f.sl, iT f.sk]), .un, .un], T⟩) ?_ ?_
      · simp [e]
      rintro o rfl
      refine ⟨_, rfl, ?_⟩
      refine seq_step (P := fun o => o = .nx ⟨[.han n, .val .N (.tup (pL p)), .val .N (.tup (p.fr.map frD)), .val .N (.int (k : Int)), .val .N (.tup [.str f.name, .int f.place, iT f.sl, iT f.sk]), .un, .un], T⟩) ?_ ?_
      · simp [i0, i1, l4, whole_at]
      rintro o rfl
      refine ⟨_, rfl, ?_⟩
      refine seq_step (P := fun o => o = .nx ⟨[.han n, .val .N (.tup (pL p)), .val .N (.tup (p.fr.map frD)), .val .N (.int (k : Int)), .val .N (.tup [.str f.name, .int f.place, iT f.sl, iT f.sk]), .un, .un], T⟩) ?_ ?_
      · simp [i0, i1, e]
      rintro o rfl
      refine ⟨_, rfl, ?_⟩
      simp [i2, i3, e, m1, m2]
    · rintro env ⟨s3, s4, rfl⟩
      exact ⟨_, _, rfl⟩
  rintro o ⟨s3, s4, rfl⟩
  refine ⟨_, rfl, ?_⟩
  refine seq_step (P := fun o => o = .nx ⟨[.han n, .val .N (.tup (pL p)), .val .N (.tup (p.fr.map frD)), s3, s4, .val .N (.tup ((rowsL p).map iT)), .un], T⟩) ?_ ?_
  · have nr : ¬ ("rows" : Str) = "statics" ∧ ¬ ("rows" : Str) = "frames" ∧ ¬ ("rows" : Str) = "watched" ∧ ¬ ("rows" : Str) = "parted" ∧ ¬ ("rows" : Str) = "objects" := by decide
    simp [hin, hrw, nr]
  rintro o rfl
  refine ⟨_, rfl, ?_⟩
  refine seq_step (P := fun o => o = .nx ⟨[.han n, .val .N (.tup (pL p)), .val .N (.tup (p.fr.map frD)), s3, s4, .val .N (.tup ((rowsL p).map iT)), .val .N (.lst ((rowsL p).map iT))], T⟩) ?_ ?_
  · simp [hlr]
  rintro o rfl
  refine ⟨_, rfl, ?_⟩
  refine seq_step (P := fun o => o = .nx ⟨[.han n, .val .N (.tup (pL p)), .val .N (.tup (p.fr.map frD)), s3, s4, .val .N (.tup ((rowsL p).map iT)), .val .N (.lst ((rowsL p).map iT))], T⟩) ?_ ?_
  · simp [hrl1]
  rintro o rfl
  refine ⟨_, rfl, ?_⟩
  have hl := lcL_fil (ct := sNotT (sTru (sCall g_law_numbers (sCons (sOp oIx (sVar 5) (sVar 3)) (sCons (sOp oIx (sVar 6) (sVar 3)) sNil))))) (fe := sVar 3) (s := setV 3) (env := ⟨[.han n, .val .N (.tup (pL p)), .val .N (.tup (p.fr.map frD)), .un, s4, .val .N (.tup ((rowsL p).map iT)), .val .N (.lst ((rowsL p).map iT))], T⟩) (p := fun _ => false) (F := fun _ => .non) (rs := iRng (rowsL p).length 0) (fun r hr => by
    obtain ⟨j, hj⟩ := List.mem_iff_getElem?.mp hr
    obtain ⟨hk9, rfl⟩ := iRng_get hj
    have e : atI ((rowsL p).map iT) (j : Int) = some (iT (rowsL p)[j]) := atI_map hk9
    have hr2 := rowsL_ok hp _ (List.getElem_mem hk9)
    have hn := numbers_at (rowsL p)[j] (by unfold lim; omega)
    simp [e, hn])
  have e0 : (iRng (rowsL p).length 0).filter (fun _ => false) = [] := by simp
  rw [e0] at hl
  simp [hl, hrl1, hri, -List.map_map, lcL_fil]
end Lw
namespace Lw
open PySem L2 Vf
theorem law_frozen_at {p : Pic} (hp : PicS p) : g_law_frozen [(.N, .lst (lsL p))] = some (.N, pD p) := by
  have hst := hp.st2
  have hwa := hp.wa2
  have hpa := hp.pa2
  have hob := hp.ob2
  have hfr := hp.fr2
  have l4 : p.st.length ≤ lim ∧ p.wa.length ≤ lim ∧ p.pa.length ≤ lim ∧ p.ob.length ≤ lim ∧ p.fr.length ≤ lim := by unfold lim; omega
  have ll : 5 ≤ lim ∧ 4 ≤ lim ∧ 2 ≤ lim := by decide
  have i0 : atI (lsL p) 0 = some (.lst (p.st.map D.int)) := rfl
  have i1 : atI (lsL p) 1 = some (.lst (p.fr.map frLD)) := rfl
  have i2 : atI (lsL p) 2 = some (.lst (p.wa.map D.int)) := rfl
  have i3 : atI (lsL p) 3 = some (.lst (p.pa.map D.int)) := rfl
  have i4 : atI (lsL p) 4 = some (.lst (p.ob.map obLD)) := rfl
  unfold g_law_frozen
  refine (gF_at (by rfl) (by rfl)).trans (Ok.eq ?_)
  rw [Ok_bind]
  unfold F_law_frozen
  refine sq_step (P := fun o => o = .nx ⟨[.val .N (.lst (lsL p)), .val .N (.lst (p.fr.map frD)), .un, .un, .un], []⟩) ?_ ?_
  · have h := lcL_mapN (fe := (sTp (sCons (sOp oIx (sVar 2) (sLit (.int 0))) (sCons (sOp oIx (sVar 2) (sLit (.int 1))) (sCons (sB tupB (sCons (sOp oIx (sVar 2) (sLit (.int 2))) sNil)) (sCons (sB tupB (sCons (sOp oIx (sVar 2) (sLit (.int 3))) sNil)) sNil)))))) (s := setV 2) (env := ⟨[.val .N (.lst (lsL p)), .un, .un, .un, .un], []⟩) (g := frLD) (h := frD) (xs := p.fr) (fun f hf => by
      have fo := hp.fr1 f hf
      have w2 := fo.s2
      have w3 := fo.k2
      have lf : f.sl.length ≤ lim ∧ f.sk.length ≤ lim := by unfold lim; omega
      have j0 : ∀ a b c d : D, atI [a, b, c, d] 0 = some a := fun _ _ _ _ => rfl
      have j1 : ∀ a b c d : D, atI [a, b, c, d] 1 = some b := fun _ _ _ _ => rfl
      have j2 : ∀ a b c d : D, atI [a, b, c, d] 2 = some c := fun _ _ _ _ => rfl
      have j3 : ∀ a b c d : D, atI [a, b, c, d] 3 = some d := fun _ _ _ _ => rfl
      simp [frLD, frD, j0, j1, j2, j3, lf, ll])
    simp [i1, h, l4, Function.comp_def]
  rintro o rfl
  refine ⟨_, rfl, ?_⟩
  refine sq_step (P := fun o => o = .nx ⟨[.val .N (.lst (lsL p)), .val .N (.lst (p.fr.map frD)), .un, .val .N (.lst (p.ob.map obD)), .un], []⟩) ?_ ?_
  · have h := lcL_mapN (fe := (sTp (sCons (sOp oIx (sVar 4) (sLit (.int 0))) (sCons (sB tupB (sCons (sOp oIx (sVar 4) (sLit (.int 1))) sNil)) sNil)))) (s := setV 4) (env := ⟨[.val .N (.lst (lsL p)), .val .N (.lst (p.fr.map frD)), .un, .un, .un], []⟩) (g := obLD) (h := obD) (xs := p.ob) (fun f hf => by
      have fo := hp.ob1 f hf
      have w2 := fo.w2
      have lf : f.ws.length ≤ lim := by unfold lim; omega
      have j0 : ∀ a b : D, atI [a, b] 0 = some a := fun _ _ => rfl
      have j1 : ∀ a b : D, atI [a, b] 1 = some b := fun _ _ => rfl
      simp [obLD, obD, j0, j1, lf, ll])
    simp [i4, h, l4, Function.comp_def]
  rintro o rfl
  refine ⟨_, rfl, ?_⟩
  simp [i0, i2, i3, l4, ll, pD, pL]
/-! kinds of what stands in the table -/
inductive Kd where | no | num | frm | ob | frms | obs | top | rows | pic (p : Pic)
abbrev Gm := Nat → Kd
def Le (G G' : Gm) : Prop := ∀ j, G j ≠ .no → G' j = G j
theorem Le.refl (G : Gm) : Le G G := fun _ _ => rfl
theorem Le.trans {G G1 G2 : Gm} (a : Le G G1) (b : Le G1 G2) : Le G G2 := fun j h => by rw [b j (by rw [a j h]; exact h), a j h]
theorem Le.num {G G' : Gm} (a : Le G G') {j : Nat} (h : G j = .num) : G' j = .num := by rw [a j (by rw [h]; exact fun z => nomatch z), h]
theorem Le.frm {G G' : Gm} (a : Le G G') {j : Nat} (h : G j = .frm) : G' j = .frm := by rw [a j (by rw [h]; exact fun z => nomatch z), h]
theorem Le.ob {G G' : Gm} (a : Le G G') {j : Nat} (h : G j = .ob) : G' j = .ob := by rw [a j (by rw [h]; exact fun z => nomatch z), h]
theorem Le.frms {G G' : Gm} (a : Le G G') {j : Nat} (h : G j = .frms) : G' j = .frms := by rw [a j (by rw [h]; exact fun z => nomatch z), h]
theorem Le.obs {G G' : Gm} (a : Le G G') {j : Nat} (h : G j = .obs) : G' j = .obs := by rw [a j (by rw [h]; exact fun z => nomatch z), h]
theorem Le.top {G G' : Gm} (a : Le G G') {j : Nat} (h : G j = .top) : G' j = .top := by rw [a j (by rw [h]; exact fun z => nomatch z), h]
theorem Le.rows {G G' : Gm} (a : Le G G') {j : Nat} (h : G j = .rows) : G' j = .rows := by rw [a j (by rw [h]; exact fun z => nomatch z), h]
theorem Le.pic {G G' : Gm} (a : Le G G') {j : Nat} {p : Pic} (h : G j = .pic p) : G' j = .pic p := by rw [a j (by rw [h]; exact fun z => nomatch z), h]
abbrev numM (ns : List Int) : Option Mob := some (.lst (iH ns))
abbrev frmM (z : Str) (n : Int) (a b : Nat) : Option Mob := some (.lst [.pu (.str z), .pu (.int n), .ob a, .ob b])
abbrev objM (z : Str) (a : Nat) : Option Mob := some (.lst [.pu (.str z), .ob a])
abbrev lstM (ys : List HV) : Option Mob := some (.lst ys)
abbrev topM (a b c d e : Nat) : Option Mob := some (.lst [.ob a, .ob b, .ob c, .ob d, .ob e])
def Nm (z : Str) : Prop := z.length ≤ 20 ∧ PyData.strOk z = true
def KOk (G : Gm) (B : Nat) (T : Tb) (i : Nat) : Kd → Prop
  | .no => True
  | .num => ∃ ns, T[i]? = some (numM ns) ∧ ns.length ≤ B
  | .frm => ∃ z n a b, T[i]? = some (frmM z n a b) ∧ G a = .num ∧ G b = .num ∧ Nm z
  | .ob => ∃ z a, T[i]? = some (objM z a) ∧ G a = .num ∧ Nm z
  | .frms => ∃ ys, T[i]? = some (lstM ys) ∧ ys.length ≤ B ∧ ∀ y ∈ ys, ∃ j, y = .ob j ∧ G j = .frm
  | .obs => ∃ ys, T[i]? = some (lstM ys) ∧ ys.length ≤ B ∧ ∀ y ∈ ys, ∃ j, y = .ob j ∧ G j = .ob
  | .top => ∃ a b c d e, T[i]? = some (topM a b c d e) ∧ G a = .num ∧ G b = .frms ∧ G c = .num ∧ G d = .num ∧ G e = .obs
  | .rows => ∃ ys, T[i]? = some (lstM ys) ∧ 3 ≤ ys.length ∧ ys.length ≤ 30000 ∧ ∀ y ∈ ys, ∃ j, y = .ob j ∧ G j = .num
  | .pic p => T[i]? = some (some (picM p))
theorem KOk.len {G : Gm} {B : Nat} {T : Tb} {i : Nat} {K : Kd} (h : KOk G B T i K) (hk : K ≠ .no) : i < T.length := by
  have key : ∀ M : Option Mob, T[i]? = some M → i < T.length := fun M e => (List.getElem?_eq_some_iff.mp e).1
  cases K with
  | no => exact (hk rfl).elim
  | num => obtain ⟨ns, h1, _⟩ := h; exact key _ h1
  | frm => obtain ⟨z, n, a, b, h1, _⟩ := h; exact key _ h1
  | ob => obtain ⟨z, a, h1, _⟩ := h; exact key _ h1
  | frms => obtain ⟨ns, h1, _⟩ := h; exact key _ h1
  | obs => obtain ⟨ns, h1, _⟩ := h; exact key _ h1
  | top => obtain ⟨a, b, c, d, e, h1, _⟩ := h; exact key _ h1
  | rows => obtain ⟨ns, h1, _⟩ := h; exact key _ h1
  | pic p => exact key _ h
theorem KOk.mono {G G' : Gm} {B B' : Nat} {T T' : Tb} {i : Nat} {K : Kd} (h : KOk G B T i K) (e : ∀ M, T[i]? = some M → T'[i]? = some M) (hB : B ≤ B') (hG : Le G G') : KOk G' B' T' i K := by
  cases K with
  | no => trivial
  | num => obtain ⟨ns, h1, h2⟩ := h; exact ⟨ns, e _ h1, by omega⟩
  | frm => obtain ⟨z, n, a, b, h1, h2, h3, h4⟩ := h; exact ⟨z, n, a, b, e _ h1, hG.num h2, hG.num h3, h4⟩
  | ob => obtain ⟨z, a, h1, h2, h3⟩ := h; exact ⟨z, a, e _ h1, hG.num h2, h3⟩
  | frms => obtain ⟨ys, h1, h2, h3⟩ := h; exact ⟨ys, e _ h1, by omega, fun y hy => by obtain ⟨j, q1, q2⟩ := h3 y hy; exact ⟨j, q1, hG.frm q2⟩⟩
  | obs => obtain ⟨ys, h1, h2, h3⟩ := h; exact ⟨ys, e _ h1, by omega, fun y hy => by obtain ⟨j, q1, q2⟩ := h3 y hy; exact ⟨j, q1, hG.ob q2⟩⟩
  | top => obtain ⟨a, b, c, d, k, h1, h2, h3, h4, h5, h6⟩ := h; exact ⟨a, b, c, d, k, e _ h1, hG.num h2, hG.frms h3, hG.num h4, hG.num h5, hG.obs h6⟩
  | rows => obtain ⟨ys, h1, h2, h3, h4⟩ := h; exact ⟨ys, e _ h1, h2, h3, fun y hy => by obtain ⟨j, q1, q2⟩ := h4 y hy; exact ⟨j, q1, hG.num q2⟩⟩
  | pic p => exact e _ h
def Ty (G : Gm) (B : Nat) (T : Tb) : Prop := ∀ i, KOk G B T i (G i)
theorem Ty.ext {G : Gm} {B : Nat} {T T' : Tb} (h : Ty G B T) (e : Ext T T') : Ty G B T' := fun i => (h i).mono (fun M q => e.get q) (Nat.le_refl _) (Le.refl G)
theorem Ty.up {G : Gm} {B B' : Nat} {T : Tb} (h : Ty G B T) (e : B ≤ B') : Ty G B' T := fun i => (h i).mono (fun M q => q) e (Le.refl G)
theorem Ty.set {G : Gm} {B B' : Nat} {T : Tb} {i : Nat} {M : Option Mob} (h : Ty G B T) (hB : B ≤ B') (hi : KOk G B' (T.set i M) i (G i)) : Ty G B' (T.set i M) := fun j => by
  by_cases e : i = j
  · subst e; exact hi
  · exact (h j).mono (fun M q => by rw [List.getElem?_set_ne e]; exact q) hB (Le.refl G)
def gUp (G : Gm) (n : Nat) (K : Kd) : Gm := fun j => if j = n then K else G j
theorem gUp_at {G : Gm} {n : Nat} {K : Kd} : gUp G n K n = K := if_pos rfl
theorem Ty.no {G : Gm} {B : Nat} {T : Tb} (h : Ty G B T) {n : Nat} (hn : T.length ≤ n) : G n = .no := by
  cases hk : G n with
  | no => rfl
  | _ =>
    have := (h n).len (by rw [hk]; exact fun z => nomatch z)
    omega
theorem Ty.le {G : Gm} {B : Nat} {T : Tb} (h : Ty G B T) {n : Nat} (hn : T.length ≤ n) (K : Kd) : Le G (gUp G n K) := fun j hj => if_neg fun e => hj (by rw [e]; exact h.no hn)
theorem Ty.new {G : Gm} {B : Nat} {T : Tb} {M : Option Mob} {K : Kd} (h : Ty G B T) (hk : KOk (gUp G T.length K) B (T ++ [M]) T.length K) : Ty (gUp G T.length K) B (T ++ [M]) := fun i => by
  by_cases e : i = T.length
  · subst e
    rw [gUp_at]
    exact hk
  · have : gUp G T.length K i = G i := if_neg e
    rw [this]
    exact (h i).mono (fun M' q => (Ext.app T [M]).get q) (Nat.le_refl _) (h.le (Nat.le_refl _) K)
theorem Ty.newNum {G : Gm} {B : Nat} {T : Tb} (h : Ty G B T) {ns : List Int} (hl : ns.length ≤ B) : Ty (gUp G T.length .num) B (T ++ [numM ns]) := h.new ⟨ns, by simp, hl⟩
/-- what stands at a place of a kind -/
theorem Ty.num {G : Gm} {B : Nat} {T : Tb} (h : Ty G B T) {i : Nat} (e : G i = .num) : ∃ ns, T[i]? = some (numM ns) ∧ ns.length ≤ B := by have := h i; rw [e] at this; exact this
theorem Ty.frm {G : Gm} {B : Nat} {T : Tb} (h : Ty G B T) {i : Nat} (e : G i = .frm) : ∃ z n a b, T[i]? = some (frmM z n a b) ∧ G a = .num ∧ G b = .num ∧ Nm z := by have := h i; rw [e] at this; exact this
theorem Ty.ob {G : Gm} {B : Nat} {T : Tb} (h : Ty G B T) {i : Nat} (e : G i = .ob) : ∃ z a, T[i]? = some (objM z a) ∧ G a = .num ∧ Nm z := by have := h i; rw [e] at this; exact this
theorem Ty.frms {G : Gm} {B : Nat} {T : Tb} (h : Ty G B T) {i : Nat} (e : G i = .frms) : ∃ ys, T[i]? = some (lstM ys) ∧ ys.length ≤ B ∧ ∀ y ∈ ys, ∃ j, y = .ob j ∧ G j = .frm := by have := h i; rw [e] at this; exact this
theorem Ty.obs {G : Gm} {B : Nat} {T : Tb} (h : Ty G B T) {i : Nat} (e : G i = .obs) : ∃ ys, T[i]? = some (lstM ys) ∧ ys.length ≤ B ∧ ∀ y ∈ ys, ∃ j, y = .ob j ∧ G j = .ob := by have := h i; rw [e] at this; exact this
theorem Ty.top {G : Gm} {B : Nat} {T : Tb} (h : Ty G B T) {i : Nat} (e : G i = .top) : ∃ a b c d k, T[i]? = some (topM a b c d k) ∧ G a = .num ∧ G b = .frms ∧ G c = .num ∧ G d = .num ∧ G k = .obs := by have := h i; rw [e] at this; exact this
theorem Ty.rows {G : Gm} {B : Nat} {T : Tb} (h : Ty G B T) {i : Nat} (e : G i = .rows) : ∃ ys, T[i]? = some (lstM ys) ∧ 3 ≤ ys.length ∧ ys.length ≤ 30000 ∧ ∀ y ∈ ys, ∃ j, y = .ob j ∧ G j = .num := by have := h i; rw [e] at this; exact this
theorem Ty.pic {G : Gm} {B : Nat} {T : Tb} (h : Ty G B T) {i : Nat} {p : Pic} (e : G i = .pic p) : T[i]? = some (some (picM p)) := by have := h i; rw [e] at this; exact this
theorem get_lt {T : Tb} {i : Nat} {M : Option Mob} (h : T[i]? = some M) : i < T.length := (List.getElem?_eq_some_iff.mp h).1
/-- changes that keep the kinds -/
theorem Ty.setNum {G : Gm} {B B' : Nat} {T : Tb} (h : Ty G B T) {i : Nat} (e : G i = .num) {ns : List Int} (hB : B ≤ B') (hl : ns.length ≤ B') : Ty G B' (T.set i (numM ns)) := by
  obtain ⟨ms, h1, _⟩ := h.num e
  refine h.set hB ?_
  rw [e]
  exact ⟨ns, List.getElem?_set_self (get_lt h1), hl⟩
/-- items of a kind, exactly -/
def numAt (T : Tb) (a : Nat) (ns : List Int) : Prop := T[a]? = some (numM ns)
def FrX (G : Gm) (T : Tb) (y : HV) (f : Fr) : Prop := ∃ j a b, y = .ob j ∧ G j = .frm ∧ T[j]? = some (frmM f.name f.place a b) ∧ numAt T a f.sl ∧ numAt T b f.sk
def ObX (G : Gm) (T : Tb) (y : HV) (o : Ob) : Prop := ∃ j a, y = .ob j ∧ G j = .ob ∧ T[j]? = some (objM o.name a) ∧ numAt T a o.ws
theorem FrX.ext {G G' : Gm} {T T' : Tb} {y : HV} {f : Fr} (h : FrX G T y f) (l : Le G G') (e : Ext T T') : FrX G' T' y f := by
  obtain ⟨j, a, b, h1, h2, h3, h4, h5⟩ := h
  exact ⟨j, a, b, h1, l.frm h2, e.get h3, e.get h4, e.get h5⟩
theorem ObX.ext {G G' : Gm} {T T' : Tb} {y : HV} {f : Ob} (h : ObX G T y f) (l : Le G G') (e : Ext T T') : ObX G' T' y f := by
  obtain ⟨j, a, h1, h2, h3, h4⟩ := h
  exact ⟨j, a, h1, l.ob h2, e.get h3, e.get h4⟩
def Its {α : Type} (R : HV → α → Prop) (ys : List HV) (fs : List α) : Prop := ys.length = fs.length ∧ ∀ (i : Nat) (y : HV) (f : α), ys[i]? = some y → fs[i]? = some f → R y f
theorem Its.nil {α : Type} {R : HV → α → Prop} : Its R [] [] := ⟨rfl, fun i y f h _ => by simp at h⟩
theorem Its.push {α : Type} {R R' : HV → α → Prop} {ys : List HV} {fs : List α} {y : HV} {f : α} (h : Its R ys fs) (e : ∀ y f, R y f → R' y f) (hy : R' y f) : Its R' (ys ++ [y]) (fs ++ [f]) := by
  refine ⟨by simp [h.1], fun i z g hz hg => ?_⟩
  by_cases q : i < ys.length
  · rw [List.getElem?_append_left q] at hz
    rw [List.getElem?_append_left (by rw [← h.1]; exact q)] at hg
    exact e _ _ (h.2 i z g hz hg)
  · have hl := h.1
    rw [List.getElem?_append_right (by omega)] at hz hg
    rw [← hl] at hg
    rcases Nat.eq_zero_or_pos (i - ys.length) with p | p
    · rw [p] at hz hg
      cases hz
      cases hg
      exact hy
    · rw [List.getElem?_eq_none (by simp; omega)] at hz; cases hz
theorem Its.mono {α : Type} {R R' : HV → α → Prop} {ys : List HV} {fs : List α} (h : Its R ys fs) (e : ∀ y f, R y f → R' y f) : Its R' ys fs := ⟨h.1, fun i y f a b => e _ _ (h.2 i y f a b)⟩
theorem Its.snap {α : Type} {R : HV → α → Prop} {g : α → D} {sn : HV → Option D} (hg : ∀ y f, R y f → sn y = some (g f)) : ∀ {ys : List HV} {fs : List α}, Its R ys fs → mapO sn ys = some (fs.map g)
  | [], [], _ => rfl
  | y :: ys, f :: fs, h => by
    have ih := Its.snap (R := R) (g := g) (sn := sn) hg (ys := ys) (fs := fs) ⟨by simpa using h.1, fun i z k hz hk => h.2 (i + 1) z k (by simpa using hz) (by simpa using hk)⟩
    rw [mapO_cons, hg _ _ (h.2 0 y f rfl rfl), ih]
    rfl
  | [], _ :: _, h => by have := h.1; simp at this
  | _ :: _, [], h => by have := h.1; simp at this
theorem Its.mem {α : Type} {R : HV → α → Prop} {ys : List HV} {fs : List α} (h : Its R ys fs) {y : HV} (hy : y ∈ ys) : ∃ f ∈ fs, R y f := by
  obtain ⟨i, hi⟩ := List.mem_iff_getElem?.mp hy
  have hl := (List.getElem?_eq_some_iff.mp hi).1
  have hl2 : i < fs.length := by rw [← h.1]; exact hl
  exact ⟨fs[i], List.getElem_mem _, h.2 i y _ hi (List.getElem?_eq_getElem hl2)⟩
theorem Ty.frame {G : Gm} {B : Nat} {T : Tb} (h : Ty G B T) {f : Fr} (fo : FrS f) (hB : 3000 ≤ B) : ∃ G', Le G G' ∧ Ty G' B (T ++ [numM f.sl] ++ [numM f.sk] ++ [frmM f.name f.place T.length (T.length + 1)]) ∧ FrX G' (T ++ [numM f.sl] ++ [numM f.sk] ++ [frmM f.name f.place T.length (T.length + 1)]) (.ob (T.length + 2)) f := by
  have w2 := fo.s2
  have w3 := fo.k2
  have t1 := h.newNum (ns := f.sl) (by omega)
  have t2 := t1.newNum (ns := f.sk) (by omega)
  have l1 := h.le (Nat.le_refl _) .num
  have l2 := t1.le (Nat.le_refl _) .num
  have l3 := t2.le (Nat.le_refl _) .frm
  have n1 : (T ++ [numM f.sl]).length = T.length + 1 := by simp
  have n2 : (T ++ [numM f.sl] ++ [numM f.sk]).length = T.length + 2 := by simp
  rw [n1] at t2 l2 l3
  rw [n2] at l3
  have a1 : gUp G T.length .num T.length = .num := gUp_at
  have a2 : gUp (gUp G T.length .num) (T.length + 1) .num (T.length + 1) = .num := gUp_at
  have g3 : (T ++ [numM f.sl] ++ [numM f.sk] ++ [frmM f.name f.place T.length (T.length + 1)])[T.length + 2]? = some (frmM f.name f.place T.length (T.length + 1)) := by
    rw [← n2]; simp
  have t3 := t2.new (M := frmM f.name f.place T.length (T.length + 1)) (K := .frm) (by
    rw [n2]
    exact ⟨f.name, f.place, T.length, T.length + 1, g3, l3.num (l2.num a1), l3.num a2, fo.nm, fo.so⟩)
  rw [n2] at t3
  refine ⟨_, (l1.trans l2).trans l3, t3, T.length + 2, T.length, T.length + 1, rfl, gUp_at, g3, ?_, ?_⟩
  · unfold numAt; simp
  · unfold numAt; simp
theorem Ty.object {G : Gm} {B : Nat} {T : Tb} (h : Ty G B T) {f : Ob} (fo : ObS f) (hB : 3000 ≤ B) : ∃ G', Le G G' ∧ Ty G' B (T ++ [numM f.ws] ++ [objM f.name T.length]) ∧ ObX G' (T ++ [numM f.ws] ++ [objM f.name T.length]) (.ob (T.length + 1)) f := by
  have w2 := fo.w2
  have t1 := h.newNum (ns := f.ws) (by omega)
  have l1 := h.le (Nat.le_refl _) .num
  have l3 := t1.le (Nat.le_refl _) .ob
  have n1 : (T ++ [numM f.ws]).length = T.length + 1 := by simp
  rw [n1] at l3
  have a1 : gUp G T.length .num T.length = .num := gUp_at
  have g3 : (T ++ [numM f.ws] ++ [objM f.name T.length])[T.length + 1]? = some (objM f.name T.length) := by
    rw [← n1]; simp
  have t3 := t1.new (M := objM f.name T.length) (K := .ob) (by
    rw [n1]
    exact ⟨f.name, T.length, g3, l3.num a1, fo.nm, fo.so⟩)
  rw [n1] at t3
  refine ⟨_, l1.trans l3, t3, T.length + 1, T.length, rfl, gUp_at, g3, ?_⟩
  unfold numAt; simp
theorem frs_item {f : Fr} (fo : FrS f) (T : Tb) {s0 s1 s3 : Sl} : xLst (xCons (xIx (xH (hVar 2)) (xE (sLit (.int 0)))) (xCons (xIx (xH (hVar 2)) (xE (sLit (.int 1)))) (xCons (xList (xIx (xH (hVar 2)) (xE (sLit (.int 2))))) (xCons (xList (xIx (xH (hVar 2)) (xE (sLit (.int 3))))) xNil)))) ⟨[s0, s1, .val .N (frLD f), s3], T⟩ = some (.val (.ob (T.length + 2)) (T ++ [numM f.sl] ++ [numM f.sk] ++ [frmM f.name f.place T.length (T.length + 1)])) := Ok.eq (by
  have i0 : ∀ a b c d : D, atI [a, b, c, d] 0 = some a := fun _ _ _ _ => rfl
  have i1 : ∀ a b c d : D, atI [a, b, c, d] 1 = some b := fun _ _ _ _ => rfl
  have i2 : ∀ a b c d : D, atI [a, b, c, d] 2 = some c := fun _ _ _ _ => rfl
  have i3 : ∀ a b c d : D, atI [a, b, c, d] 3 = some d := fun _ _ _ _ => rfl
  have l4 : 4 ≤ lim := by decide
  simp [frLD, ixX, ixD, i0, i1, i2, i3, lstK, l4, numM, frmM, iH, Function.comp_def])
theorem obs_item {o : Ob} (fo : ObS o) (T : Tb) {s0 s1 s2 : Sl} : xLst (xCons (xIx (xH (hVar 3)) (xE (sLit (.int 0)))) (xCons (xList (xIx (xH (hVar 3)) (xE (sLit (.int 1))))) xNil)) ⟨[s0, s1, s2, .val .N (obLD o)], T⟩ = some (.val (.ob (T.length + 1)) (T ++ [numM o.ws] ++ [objM o.name T.length])) := Ok.eq (by
  have i0 : ∀ a b : D, atI [a, b] 0 = some a := fun _ _ => rfl
  have i1 : ∀ a b : D, atI [a, b] 1 = some b := fun _ _ => rfl
  have l4 : 2 ≤ lim := by decide
  simp [obLD, ixX, ixD, i0, i1, lstK, l4, numM, objM, iH, Function.comp_def])
theorem xc_step {f : FX} {fa : FXA} {env : Ev} {P : HV → Tb → Prop} {Q : XRes (List HV) → Prop} (h1 : Ok (f env) fun r => ∃ x T, r = .val x T ∧ P x T) (h2 : ∀ x T, P x T → Ok (fa ⟨env.s, T⟩) fun r => ∃ xs T2, r = .val xs T2 ∧ Q (.val (x :: xs) T2)) : Ok (xCons f fa env) Q := by
  obtain ⟨r, e1, x, T, rfl, hp⟩ := h1
  obtain ⟨r, e2, xs, T2, rfl, hq⟩ := h2 x T hp
  refine ⟨_, ?_, hq⟩
  rw [xCons_eq, e1]
  show ((fa ⟨env.s, T⟩).bind _) = _
  rw [e2]
  rfl
end Lw
namespace Lw
open PySem L2 Vf
/-- a new list of the table, all parts by themselves -/
def Lsd (G : Gm) (T : Tb) (o : Nat) (p : Pic) : Prop := ∃ a b c d e ys os, T[o]? = some (topM a b c d e) ∧ G a = .num ∧ G b = .frms ∧ G c = .num ∧ G d = .num ∧ G e = .obs ∧ numAt T a p.st ∧ T[b]? = some (lstM ys) ∧ Its (FrX G T) ys p.fr ∧ numAt T c p.wa ∧ numAt T d p.pa ∧ T[e]? = some (lstM os) ∧ Its (ObX G T) os p.ob
theorem take_succ' {α : Type} {l : List α} {k : Nat} {f : α} (h : l[k]? = some f) : l.take (k + 1) = l.take k ++ [f] := by rw [List.take_succ, h]; rfl
theorem law_listed_at {p : Pic} (hp : PicS p) {G : Gm} {B : Nat} {T : Tb} (hT : Ty G B T) (hB : 3000 ≤ B) : Ok (g_law_listed [.pu (.lst (lsL p))] T) fun r => ∃ o T' G', r = .val (.ob o) T' ∧ Ext T T' ∧ Le G G' ∧ Ty G' B T' ∧ G' o = .top ∧ Lsd G' T' o p := by
  have hst := hp.st2
  have hwa := hp.wa2
  have hpa := hp.pa2
  have hob := hp.ob2
  have hfr := hp.fr2
  have l4 : p.st.length ≤ lim ∧ p.wa.length ≤ lim ∧ p.pa.length ≤ lim ∧ p.ob.length ≤ lim ∧ p.fr.length ≤ lim := by unfold lim; omega
  have ll : 5 ≤ lim ∧ 4 ≤ lim ∧ 2 ≤ lim := by decide
  have i0 : atI (lsL p) 0 = some (.lst (p.st.map D.int)) := rfl
  have i1 : atI (lsL p) 1 = some (.lst (p.fr.map frLD)) := rfl
  have i2 : atI (lsL p) 2 = some (.lst (p.wa.map D.int)) := rfl
  have i3 : atI (lsL p) 3 = some (.lst (p.pa.map D.int)) := rfl
  have i4 : atI (lsL p) 4 = some (.lst (p.ob.map obLD)) := rfl
  have hix : ∀ (i : Int) (d : D) (T : Tb) (l : List Sl), atI (lsL p) i = some d → (xIx (xH (hVar 0)) (xE (sLit (.int i)))) ⟨.val .N (.lst (lsL p)) :: l, T⟩ = some (.val (.pu d) T) := fun i d T l h => Ok.eq (by
    simp [ixX, ixD, h])
  unfold g_law_listed
  rw [gFX_at (by rfl), Ok_bind]
  unfold F_law_listed
  -- frames
  refine seq_step (P := fun o => ∃ T1 G1 ys, o = .nx ⟨[.val .N (.lst (lsL p)), .han T1.length, .un, .un], T1 ++ [lstM ys]⟩ ∧ Ext T T1 ∧ Le G G1 ∧ Ty G1 B T1 ∧ Its (FrX G1 T1) ys p.fr) ?_ ?_
  · have h1 := hix 1 _ T [.un, .un, .un] i1
    have h1' : (xIx (xH (hVar 0)) (xE (sLit (.int 1)))) ⟨[.val .N (.lst (lsL p)), .un, .un, .un], T⟩ = some (.val (.pu (.lst (p.fr.map frLD))) T) := h1
    simp [-xIx_eq, h1', l4, -xLst_eq]
    refine (lcX_ok (fun k ys T1 => Ext T T1 ∧ ∃ G1, Le G G1 ∧ Ty G1 B T1 ∧ Its (FrX G1 T1) ys (p.fr.take k)) (fun _ _ _ _ => by simp) ⟨Ext.refl _, G, Le.refl _, hT, by simpa using Its.nil⟩ ?_).mono ?_
    · rintro k y done T1 hk ⟨he, G1, hl, ht, hi⟩
      rw [List.getElem?_map] at hk
      obtain ⟨f, hf, rfl⟩ := Option.map_eq_some_iff.mp hk
      have hfm := List.mem_of_getElem? hf
      obtain ⟨G2, a1, a2, a3⟩ := ht.frame (hp.fr1 f hfm) hB
      have e2 : Ext T1 (T1 ++ [numM f.sl] ++ [numM f.sk] ++ [frmM f.name f.place T1.length (T1.length + 1)]) := by
        rw [List.append_assoc, List.append_assoc]
        exact Ext.app _ _
      refine ⟨_, rfl, .val true T1, rfl, true, T1, rfl, fun _ => ⟨_, frs_item (hp.fr1 f hfm) T1, _, _, rfl, he.trans e2, G2, hl.trans a1, a2, ?_⟩, fun h => nomatch h⟩
      rw [take_succ' hf]
      exact hi.push (fun _ _ h => h.ext a1 e2) a3
    · rintro ⟨ys, T1⟩ ⟨he, G1, hl, ht, hi⟩
      have hi : Its (FrX G1 T1) ys (p.fr.take _) := hi
      rw [List.length_map, List.take_length] at hi
      exact ⟨T1, G1, ys, ⟨rfl, rfl, rfl⟩, he, hl, ht, hi⟩
  rintro o ⟨T1, G1, ys, rfl, e1, le1, t1, hys⟩
  refine ⟨_, rfl, ?_⟩
  have hyl : ys.length ≤ B := by have := hys.1; omega
  have t2 : Ty (gUp G1 T1.length .frms) B (T1 ++ [lstM ys]) := t1.new ⟨ys, by simp, hyl, fun y hy => by
    obtain ⟨f, _, j, a, b, q1, q2, _⟩ := hys.mem hy
    exact ⟨j, q1, (t1.le (Nat.le_refl _) _).frm q2⟩⟩
  have le2 := le1.trans (t1.le (Nat.le_refl _) .frms)
  have b2 : gUp G1 T1.length .frms T1.length = .frms := gUp_at
  have g2 : (T1 ++ [lstM ys])[T1.length]? = some (lstM ys) := by simp
  have hys2 := hys.mono fun _ _ h => h.ext (t1.le (Nat.le_refl _) .frms) (Ext.app T1 [lstM ys])
  have e2 := e1.trans (Ext.app T1 [lstM ys])
  generalize T1 ++ [lstM ys] = T2 at *
  generalize gUp G1 T1.length .frms = G2 at *
  generalize T1.length = bi at *
  clear hys t1 le1 e1 hyl
  -- the five
  rw [zRet_eq]
  have key : Ok (xLst (xCons (xList (xIx (xH (hVar 0)) (xE (sLit (.int 0))))) (xCons (xH (hVar 1)) (xCons (xList (xIx (xH (hVar 0)) (xE (sLit (.int 2))))) (xCons (xList (xIx (xH (hVar 0)) (xE (sLit (.int 3))))) (xCons (xLc (xIx (xH (hVar 0)) (xE (sLit (.int 4)))) (setHS 3) xYes (xLst (xCons (xIx (xH (hVar 3)) (xE (sLit (.int 0)))) (xCons (xList (xIx (xH (hVar 3)) (xE (sLit (.int 1))))) xNil))) [3]) xNil))))) ⟨[.val .N (.lst (lsL p)), .han bi, .un, .un], T2⟩) fun r => ∃ o T' G', r = .val (.ob o) T' ∧ Ext T T' ∧ Le G G' ∧ Ty G' B T' ∧ G' o = .top ∧ Lsd G' T' o p := by
    rw [xLst_eq, Ok_bind]
    refine xc_step (P := fun x T3 => x = .ob T2.length ∧ T3 = T2 ++ [numM p.st]) ?_ ?_
    · simp [-xIx_eq, hix 0 _ _ _ i0, iH, Function.comp_def, numM]
    rintro x T3 ⟨rfl, rfl⟩
    refine xc_step (P := fun x T3 => x = .ob bi ∧ T3 = T2 ++ [numM p.st]) ?_ ?_
    · simp
    rintro x T3 ⟨rfl, rfl⟩
    refine xc_step (P := fun x T3 => x = .ob (T2.length + 1) ∧ T3 = T2 ++ [numM p.st] ++ [numM p.wa]) ?_ ?_
    · simp [-xIx_eq, hix 2 _ _ _ i2, iH, Function.comp_def, numM]
    rintro x T3 ⟨rfl, rfl⟩
    refine xc_step (P := fun x T3 => x = .ob (T2.length + 2) ∧ T3 = T2 ++ [numM p.st] ++ [numM p.wa] ++ [numM p.pa]) ?_ ?_
    · simp [-xIx_eq, hix 3 _ _ _ i3, iH, Function.comp_def, numM]
    rintro x T3 ⟨rfl, rfl⟩
    have t3 := t2.newNum (ns := p.st) (by omega)
    have l3 := t2.le (Nat.le_refl _) .num
    have t4 := t3.newNum (ns := p.wa) (by omega)
    have l4' := t3.le (Nat.le_refl _) .num
    have t5 := t4.newNum (ns := p.pa) (by omega)
    have l5 := t4.le (Nat.le_refl _) .num
    have n3 : (T2 ++ [numM p.st]).length = T2.length + 1 := by simp
    have n4 : (T2 ++ [numM p.st] ++ [numM p.wa]).length = T2.length + 2 := by simp
    rw [n3] at t4 l4' t5 l5
    rw [n4] at t5 l5
    have a3 : gUp G2 T2.length .num T2.length = .num := gUp_at
    have a4 : gUp (gUp G2 T2.length .num) (T2.length + 1) .num (T2.length + 1) = .num := gUp_at
    have a5 : gUp (gUp (gUp G2 T2.length .num) (T2.length + 1) .num) (T2.length + 2) .num (T2.length + 2) = .num := gUp_at
    have k3 := l5.num (l4'.num a3)
    have k4 := l5.num a4
    have g3 : numAt (T2 ++ [numM p.st] ++ [numM p.wa] ++ [numM p.pa]) T2.length p.st := by unfold numAt; simp
    have g4 : numAt (T2 ++ [numM p.st] ++ [numM p.wa] ++ [numM p.pa]) (T2.length + 1) p.wa := by unfold numAt; simp
    have g5 : numAt (T2 ++ [numM p.st] ++ [numM p.wa] ++ [numM p.pa]) (T2.length + 2) p.pa := by unfold numAt; simp
    have e5 : Ext T2 (T2 ++ [numM p.st] ++ [numM p.wa] ++ [numM p.pa]) := by
      rw [List.append_assoc, List.append_assoc]
      exact Ext.app _ _
    have le5 := (l3.trans l4').trans l5
    generalize T2 ++ [numM p.st] ++ [numM p.wa] ++ [numM p.pa] = T5 at *
    generalize gUp (gUp (gUp G2 T2.length .num) (T2.length + 1) .num) (T2.length + 2) .num = G5 at *
    refine xc_step (P := fun x T6 => ∃ T5' os G6, x = .ob T5'.length ∧ T6 = T5' ++ [lstM os] ∧ Ext T5 T5' ∧ Le G5 G6 ∧ Ty G6 B T5' ∧ Its (ObX G6 T5') os p.ob) ?_ ?_
    · simp [-xIx_eq, hix 4 _ _ _ i4, l4, -xLst_eq]
      refine (lcX_ok (fun k ys T1 => Ext T5 T1 ∧ ∃ G1, Le G5 G1 ∧ Ty G1 B T1 ∧ Its (ObX G1 T1) ys (p.ob.take k)) (fun _ _ _ _ => by simp) ⟨Ext.refl _, G5, Le.refl _, t5, by simpa using Its.nil⟩ ?_).mono ?_
      · rintro k y done T1 hk ⟨he, G1, hl, ht, hi⟩
        rw [List.getElem?_map] at hk
        obtain ⟨f, hf, rfl⟩ := Option.map_eq_some_iff.mp hk
        have hfm := List.mem_of_getElem? hf
        obtain ⟨G2, a1, a2, a3⟩ := ht.object (hp.ob1 f hfm) hB
        have e2 : Ext T1 (T1 ++ [numM f.ws] ++ [objM f.name T1.length]) := by
          rw [List.append_assoc]
          exact Ext.app _ _
        refine ⟨_, rfl, .val true T1, rfl, true, T1, rfl, fun _ => ⟨_, obs_item (hp.ob1 f hfm) T1, _, _, rfl, he.trans e2, G2, hl.trans a1, a2, ?_⟩, fun h => nomatch h⟩
        rw [take_succ' hf]
        exact hi.push (fun _ _ h => h.ext a1 e2) a3
      · rintro ⟨ys, T1⟩ ⟨he, G1, hl, ht, hi⟩
        have hi : Its (ObX G1 T1) ys (p.ob.take _) := hi
        rw [List.length_map, List.take_length] at hi
        exact ⟨_, _, ⟨rfl, rfl⟩, T1, rfl, ys, rfl, he, G1, hl, ht, hi⟩
    rintro x T6 ⟨T5', os, G6, rfl, rfl, he6, le6, t6, hos⟩
    have hol : os.length ≤ B := by have := hos.1; omega
    have t7 : Ty (gUp G6 T5'.length .obs) B (T5' ++ [lstM os]) := t6.new ⟨os, by simp, hol, fun y hy => by
      obtain ⟨f, _, j, a, q1, q2, _⟩ := hos.mem hy
      exact ⟨j, q1, (t6.le (Nat.le_refl _) _).ob q2⟩⟩
    have le7 := t6.le (Nat.le_refl _) .obs
    have b7 : gUp G6 T5'.length .obs T5'.length = .obs := gUp_at
    have g7 : (T5' ++ [lstM os])[T5'.length]? = some (lstM os) := by simp
    have hos7 := hos.mono fun _ _ h => h.ext le7 (Ext.app T5' [lstM os])
    have e7 := Ext.app T5' [lstM os]
    generalize T5' ++ [lstM os] = T7 at *
    generalize gUp G6 T5'.length .obs = G7 at *
    generalize T5'.length = ei at *
    have le57 := le6.trans le7
    have le27 := le5.trans le57
    have e57 := he6.trans e7
    have e27 := e5.trans e57
    have t8 : Ty (gUp G7 T7.length .top) B (T7 ++ [topM T2.length bi (T2.length + 1) (T2.length + 2) ei]) := t7.new (by
      have l8 := t7.le (Nat.le_refl _) .top
      exact ⟨_, _, _, _, _, by simp, l8.num (le57.num k3), l8.frms (le27.frms b2), l8.num (le57.num k4), l8.num (le57.num a5), l8.obs b7⟩)
    have l8 := t7.le (Nat.le_refl _) .top
    have e8 := Ext.app T7 [topM T2.length bi (T2.length + 1) (T2.length + 2) ei]
    simp [lstK, ll]
    refine ⟨_, _, ⟨rfl, rfl⟩, _, _, ⟨rfl, rfl⟩, _, _, ⟨rfl, rfl⟩, _, _, ⟨rfl, rfl⟩, _, _, ⟨rfl, rfl⟩, ll.1, ?_⟩
    refine ⟨T7.length, _, ⟨rfl, rfl⟩, (e2.trans e27).trans e8, gUp G7 T7.length .top, (le2.trans le27).trans l8, t8, gUp_at, ?_⟩
    refine ⟨T2.length, bi, T2.length + 1, T2.length + 2, ei, ys, os, by simp, l8.num (le57.num k3), l8.frms (le27.frms b2), l8.num (le57.num k4), l8.num (le57.num a5), l8.obs b7, e8.get (e57.get g3), e8.get (e27.get g2), hys2.mono fun _ _ h => (h.ext le27 e27).ext l8 e8, e8.get (e57.get g4), e8.get (e57.get g5), e8.get g7, hos7.mono fun _ _ h => h.ext l8 e8⟩
  rw [Ok_bind]
  refine Ok.mono key ?_
  rintro r ⟨o, T', G', rfl, h⟩
  simp
  exact ⟨o, T', ⟨rfl, rfl⟩, h.1, G', h.2⟩
end Lw
namespace Lw
open PySem L2 Vf
theorem ix0 {T : Tb} {o a b c d e : Nat} (h : T[o]? = some (topM a b c d e)) : ixX T (.ob o) 0 = some (.ob a) ∧ ixX T (.ob o) 1 = some (.ob b) ∧ ixX T (.ob o) 2 = some (.ob c) ∧ ixX T (.ob o) 3 = some (.ob d) ∧ ixX T (.ob o) 4 = some (.ob e) := by
  refine ⟨?_, ?_, ?_, ?_, ?_⟩ <;> (rw [ixX_lst h]; rfl)
theorem ixF {T : Tb} {j a b : Nat} {z : Str} {n : Int} (h : T[j]? = some (frmM z n a b)) : ixX T (.ob j) 0 = some (.pu (.str z)) ∧ ixX T (.ob j) 1 = some (.pu (.int n)) ∧ ixX T (.ob j) 2 = some (.ob a) ∧ ixX T (.ob j) 3 = some (.ob b) := by
  refine ⟨?_, ?_, ?_, ?_⟩ <;> (rw [ixX_lst h]; rfl)
theorem ixO {T : Tb} {j a : Nat} {z : Str} (h : T[j]? = some (objM z a)) : ixX T (.ob j) 0 = some (.pu (.str z)) ∧ ixX T (.ob j) 1 = some (.ob a) := by
  refine ⟨?_, ?_⟩ <;> (rw [ixX_lst h]; rfl)
theorem catM_ob {T : Tb} {n : Nat} {xs : List HV} (h : T[n]? = some (some (.lst xs))) : catM T (.ob n) = some xs := by
  unfold catM
  dsimp only
  rw [h]
/-- the rows, as they stand -/
theorem law_rowsX_at {G : Gm} {B : Nat} {T : Tb} (hT : Ty G B T) (hB : B ≤ 10000) {o : Nat} (ho : G o = .top) : Ok (g_law_rowsX [.ob o] T) fun r => ∃ n T' G', r = .val (.ob n) T' ∧ Ext T T' ∧ Le G G' ∧ Ty G' B T' ∧ G' n = .rows := by
  obtain ⟨a, b, c, d, e, h1, ha, hb, hc, hd, he⟩ := hT.top ho
  obtain ⟨ys, h2, hyl, hys⟩ := hT.frms hb
  have ll : 1 ≤ lim ∧ 2 ≤ lim := by decide
  unfold g_law_rowsX
  rw [gFX_at (by rfl), Ok_bind]
  unfold F_law_rowsX
  refine seq_step (P := fun r => r = .nx ⟨[.han o, .han T.length, .un], T ++ [lstM [.ob a]]⟩) ?_ ?_
  · simp [ix0 h1, lstK, ll]
  rintro r rfl
  refine ⟨_, rfl, ?_⟩
  refine seq_step (P := fun r => ∃ n s2 T1 zs, r = .nx ⟨[.han o, .han n, s2], T1⟩ ∧ Ext T T1 ∧ T1[n]? = some (lstM zs) ∧ zs.length = 1 + 2 * ys.length ∧ ∀ y ∈ zs, ∃ j, y = .ob j ∧ G j = .num) ?_ ?_
  · have e0 : Ext T (T ++ [lstM [.ob a]]) := Ext.app _ _
    have g0 : (T ++ [lstM [.ob a]])[T.length]? = some (lstM [.ob a]) := by simp
    generalize T ++ [lstM [.ob a]] = T0 at *
    generalize T.length = n0 at *
    have q := ix0 (e0.get h1)
    have q2 := srcM_ob (e0.get h2)
    simp [q, q2]
    refine forH_ok (fun k env => ∃ n s2 T1 zs, env = ⟨[.han o, .han n, s2], T1⟩ ∧ Ext T T1 ∧ T1[n]? = some (lstM zs) ∧ zs.length = 1 + 2 * k ∧ ∀ y ∈ zs, ∃ j, y = .ob j ∧ G j = .num) ⟨n0, _, T0, [.ob a], rfl, e0, g0, rfl, fun y hy => by simp at hy; exact ⟨a, hy, ha⟩⟩ ?_ ?_ ?_
    · rintro k env ⟨n, s2, T1, zs, rfl, e1, g1, hl, hz⟩
      exact srcM_ob (e1.get h2)
    · rintro k y env hk ⟨n, s2, T1, zs, rfl, e1, g1, hl, hz⟩
      have hym := List.mem_of_getElem? hk
      have hk9 := (List.getElem?_eq_some_iff.mp hk).1
      obtain ⟨j, rfl, hj⟩ := hys y hym
      obtain ⟨z, m, x1, x2, f1, f2, f3, _⟩ := hT.frm hj
      have qf := ixF (e1.get f1)
      have e2 : Ext T1 (T1 ++ [lstM [.ob x1, .ob x2]]) := Ext.app _ _
      have g2 : (T1 ++ [lstM [.ob x1, .ob x2]])[T1.length]? = some (lstM [.ob x1, .ob x2]) := by simp
      have c1 := catM_ob (e2.get g1)
      have c2 := catM_ob g2
      have hle : zs.length + 2 ≤ lim := by unfold lim; omega
      refine ⟨⟨[.han o, .han n, .han j], T1⟩, by simp, ?_⟩
      have e3 : Ext (T1 ++ [lstM [.ob x1, .ob x2]]) (T1 ++ [lstM [.ob x1, .ob x2]] ++ [lstM (zs ++ [.ob x1, .ob x2])]) := Ext.app _ _
      have g3 : (T1 ++ [lstM [.ob x1, .ob x2]] ++ [lstM (zs ++ [.ob x1, .ob x2])])[T1.length + 1]? = some (lstM (zs ++ [.ob x1, .ob x2])) := by
        have : (T1 ++ [lstM [.ob x1, .ob x2]]).length = T1.length + 1 := by simp
        rw [← this]; simp
      have c1' : catM (T1 ++ [lstM [.ob x1, .ob x2]]) (.ob n) = some zs := c1
      have c2' : catM (T1 ++ [lstM [.ob x1, .ob x2]]) (.ob T1.length) = some [.ob x1, .ob x2] := c2
      have hb9 : Ok (B_law_rowsX_1 ⟨[.han o, .han n, .han j], T1⟩) fun r => r = .nx ⟨[.han o, .han (T1.length + 1), .han j], T1 ++ [lstM [.ob x1, .ob x2]] ++ [lstM (zs ++ [.ob x1, .ob x2])]⟩ := by
        simp [B_law_rowsX_1, qf, lstK, ll, catK, c1', c2', hle]
      refine hb9.mono ?_
      rintro r rfl
      refine ⟨_, _, _, _, rfl, (e1.trans e2).trans e3, g3, by simp; omega, fun y hy => ?_⟩
      rcases List.mem_append.mp hy with h | h
      · exact hz y h
      · simp at h
        rcases h with rfl | rfl
        · exact ⟨_, rfl, f2⟩
        · exact ⟨_, rfl, f3⟩
    · rintro env ⟨n, s2, T1, zs, rfl, e1, g1, hl, hz⟩
      exact ⟨n, s2, T1, rfl, e1, zs, g1, hl, hz⟩
  rintro r ⟨n, s2, T1, zs, rfl, e1, g1, hl, hz⟩
  refine ⟨_, rfl, ?_⟩
  have q := ix0 (e1.get h1)
  have e2 : Ext T1 (T1 ++ [lstM [.ob c, .ob d]]) := Ext.app _ _
  have g2 : (T1 ++ [lstM [.ob c, .ob d]])[T1.length]? = some (lstM [.ob c, .ob d]) := by simp
  have c1' : catM (T1 ++ [lstM [.ob c, .ob d]]) (.ob n) = some zs := catM_ob (e2.get g1)
  have c2' : catM (T1 ++ [lstM [.ob c, .ob d]]) (.ob T1.length) = some [.ob c, .ob d] := catM_ob g2
  have hle : zs.length + 2 ≤ lim := by unfold lim; omega
  have e3 : Ext (T1 ++ [lstM [.ob c, .ob d]]) (T1 ++ [lstM [.ob c, .ob d]] ++ [lstM (zs ++ [.ob c, .ob d])]) := Ext.app _ _
  have g3 : (T1 ++ [lstM [.ob c, .ob d]] ++ [lstM (zs ++ [.ob c, .ob d])])[T1.length + 1]? = some (lstM (zs ++ [.ob c, .ob d])) := by
    have : (T1 ++ [lstM [.ob c, .ob d]]).length = T1.length + 1 := by simp
    rw [← this]; simp
  have hb9 : Ok ((zRet (xCat (xH (hVar 1)) (xLst (xCons (xIx (xH (hVar 0)) (xE (sLit (.int 2)))) (xCons (xIx (xH (hVar 0)) (xE (sLit (.int 3)))) xNil))))) ⟨[.han o, .han n, s2], T1⟩) fun r => r = .rt (.ob (T1.length + 1)) (T1 ++ [lstM [.ob c, .ob d]] ++ [lstM (zs ++ [.ob c, .ob d])]) := by
    simp [q, lstK, ll, catK, c1', c2', hle]
  refine hb9.mono ?_
  rintro r rfl
  have t2 := (hT.ext e1).ext e2
  have hlen : (T1 ++ [lstM [.ob c, .ob d]]).length = T1.length + 1 := by simp
  have t3 := t2.new (M := lstM (zs ++ [.ob c, .ob d])) (K := .rows) (by
    have l9 := t2.le (Nat.le_refl _) .rows
    refine ⟨zs ++ [.ob c, .ob d], by simp, by simp; omega, by simp; omega, fun y hy => ?_⟩
    rcases List.mem_append.mp hy with h | h
    · obtain ⟨j, q1, q2⟩ := hz y h
      exact ⟨j, q1, l9.num q2⟩
    · simp at h
      rcases h with rfl | rfl
      · exact ⟨_, rfl, l9.num hc⟩
      · exact ⟨_, rfl, l9.num hd⟩)
  refine ⟨_, rfl, T1.length + 1, _, _, rfl, (e1.trans e2).trans e3, t2.le (Nat.le_refl _) .rows, t3, by rw [hlen]; exact gUp_at⟩
/-- what is read off, frozen -/
theorem pures_iH (ns : List Int) : pures (iH ns) = some (ns.map D.int) := by
  have := pures_map (ns.map D.int)
  rw [List.map_map] at this
  exact this
theorem tup_num {T : Tb} {a : Nat} {ns : List Int} (h : T[a]? = some (numM ns)) : tupOfK (.ob a) T = some (.val (.pu (iT ns)) T) := by
  unfold tupOfK
  rw [srcM_ob h]
  simp only [Option.bind_some, pures_iH]
theorem choose_list {α : Type} {R : HV → α → Prop} {ys : List HV} (h : ∀ y ∈ ys, ∃ f, R y f) : ∃ fs : List α, Its R ys fs := by
  induction ys with
  | nil => exact ⟨[], Its.nil⟩
  | cons y ys ih =>
    obtain ⟨fs, h1, h2⟩ := ih fun z hz => h z (List.mem_cons_of_mem _ hz)
    obtain ⟨f, hf⟩ := h y List.mem_cons_self
    refine ⟨f :: fs, by simp [h1], fun i z g hz hg => ?_⟩
    cases i with
    | zero => simp at hz hg; subst hz; subst hg; exact hf
    | succ i => simp at hz hg; exact h2 i z g hz hg
/-- a thing of the table is worth a picture -/
structure Wo (G : Gm) (T : Tb) (o : Nat) (q : Pic) : Prop where
  l : Lsd G T o q
  ok : PicOk q
theorem Ty.wo {G : Gm} {B : Nat} {T : Tb} (hT : Ty G B T) (hB : B ≤ 5000) {o : Nat} (ho : G o = .top) : ∃ q, Wo G T o q := by
  obtain ⟨a, b, c, d, e, h1, ha, hb, hc, hd, he⟩ := hT.top ho
  obtain ⟨st, g1, s1⟩ := hT.num ha
  obtain ⟨wa, g2, s2⟩ := hT.num hc
  obtain ⟨pa, g3, s3⟩ := hT.num hd
  obtain ⟨ys, g4, s4, k4⟩ := hT.frms hb
  obtain ⟨os, g5, s5, k5⟩ := hT.obs he
  obtain ⟨fs, hfs⟩ := choose_list (R := fun y f => FrX G T y f ∧ FrOk f) (ys := ys) fun y hy => by
    obtain ⟨j, rfl, hj⟩ := k4 y hy
    obtain ⟨z, n, x1, x2, f1, f2, f3, f4, f5⟩ := hT.frm hj
    obtain ⟨n1, m1, b1⟩ := hT.num f2
    obtain ⟨n2, m2, b2⟩ := hT.num f3
    exact ⟨⟨z, n, n1, n2⟩, ⟨j, x1, x2, rfl, hj, f1, m1, m2⟩, ⟨f4, f5, by show n1.length ≤ _; omega, by show n2.length ≤ _; omega⟩⟩
  obtain ⟨obs, hobs⟩ := choose_list (R := fun y f => ObX G T y f ∧ ObOk f) (ys := os) fun y hy => by
    obtain ⟨j, rfl, hj⟩ := k5 y hy
    obtain ⟨z, x1, f1, f2, f4, f5⟩ := hT.ob hj
    obtain ⟨n1, m1, b1⟩ := hT.num f2
    exact ⟨⟨z, n1⟩, ⟨j, x1, rfl, hj, f1, m1⟩, ⟨f4, f5, by show n1.length ≤ _; omega⟩⟩
  have mem2 : ∀ f ∈ fs, FrOk f := fun f hf => by
    obtain ⟨i, hi⟩ := List.mem_iff_getElem?.mp hf
    have hl := (List.getElem?_eq_some_iff.mp hi).1
    have hl2 : i < ys.length := by rw [hfs.1]; exact hl
    exact (hfs.2 i _ f (List.getElem?_eq_getElem hl2) hi).2
  have mem3 : ∀ f ∈ obs, ObOk f := fun f hf => by
    obtain ⟨i, hi⟩ := List.mem_iff_getElem?.mp hf
    have hl := (List.getElem?_eq_some_iff.mp hi).1
    have hl2 : i < os.length := by rw [hobs.1]; exact hl
    exact (hobs.2 i _ f (List.getElem?_eq_getElem hl2) hi).2
  refine ⟨⟨st, fs, wa, pa, obs⟩, ⟨a, b, c, d, e, ys, os, h1, ha, hb, hc, hd, he, g1, g4, hfs.mono fun _ _ h => h.1, g2, g3, g5, hobs.mono fun _ _ h => h.1⟩, ⟨by show st.length ≤ _; omega, mem2, ?_, by show wa.length ≤ _; omega, by show pa.length ≤ _; omega, mem3, ?_⟩⟩
  · show fs.length ≤ 5000; have := hfs.1; omega
  · show obs.length ≤ 5000; have := hobs.1; omega
theorem law_frozenX_at {G : Gm} {T : Tb} {o : Nat} {q : Pic} (h : Wo G T o q) : Ok (g_law_frozenX [.ob o] T) fun r => ∃ T', r = .val (.pu (pD q)) T' ∧ Ext T T' := by
  obtain ⟨⟨a, b, c, d, e, ys, os, h1, ha, hb, hc, hd, he, g1, g2, hys, g3, g4, g5, hos⟩, hq⟩ := h
  have hfr := hq.fr2
  have hob := hq.ob2
  have l4 : ys.length ≤ lim ∧ os.length ≤ lim := by have := hys.1; have := hos.1; unfold lim; omega
  have ll : 5 ≤ lim ∧ 4 ≤ lim ∧ 2 ≤ lim := by decide
  unfold g_law_frozenX
  rw [gFX_at (by rfl), Ok_bind]
  unfold F_law_frozenX
  refine seq_step (P := fun r => ∃ n T1, r = .nx ⟨[.han o, .han n, .un, .un, .un], T1⟩ ∧ Ext T T1 ∧ T1[n]? = some (lstM ((q.fr.map frD).map .pu))) ?_ ?_
  · have q1 := ix0 h1
    simp [q1, srcM_ob g2, l4, -xTup_eq]
    refine (lcX_ok (fun k zs T1 => T1 = T ∧ zs = ((q.fr.take k).map frD).map .pu) (fun k zs T1 ⟨h, _⟩ => by rw [h]; exact srcM_ob g2) ⟨rfl, by simp⟩ ?_).mono ?_
    · rintro k y done T1 hk ⟨rfl, rfl⟩
      have hk9 := (List.getElem?_eq_some_iff.mp hk).1
      have hk2 : k < q.fr.length := by rw [← hys.1]; exact hk9
      have hf : q.fr[k]? = some q.fr[k] := List.getElem?_eq_getElem hk2
      obtain ⟨j, x1, x2, rfl, _, f1, f2, f3⟩ := hys.2 k y _ hk hf
      have qf := ixF f1
      rw [take_succ' hf]
      have t1 := tup_num f2
      have t2 := tup_num f3
      refine ⟨⟨[.han o, .un, .han j, .un, .un], T1⟩, by simp, .val true T1, rfl, true, T1, rfl, fun _ => ?_, fun h => nomatch h⟩
      have tk : (List.map (HV.pu ∘ frD) q.fr)[k]? = some (.pu (frD q.fr[k])) := by rw [List.getElem?_map, hf]; rfl
      simp [qf, t1, t2, tupK, ll]
      exact ⟨_, _, ⟨rfl, rfl⟩, rfl, by rw [take_succ' tk]; rfl⟩
    · rintro ⟨zs, T1⟩ ⟨h9, h8⟩
      have h9 : T1 = T := h9
      have h8 : zs = _ := h8
      subst h9
      subst h8
      rw [hys.1, List.take_length]
      refine ⟨_, _, ⟨rfl, rfl⟩, Ext.app _ _, by simp⟩
  rintro r ⟨n, T1, rfl, e1, m1⟩
  refine ⟨_, rfl, ?_⟩
  refine seq_step (P := fun r => ∃ n2 T2, r = .nx ⟨[.han o, .han n, .un, .han n2, .un], T2⟩ ∧ Ext T1 T2 ∧ T2[n2]? = some (lstM ((q.ob.map obD).map .pu))) ?_ ?_
  · have q1 := ix0 (e1.get h1)
    simp [q1, srcM_ob (e1.get g5), l4, -xTup_eq]
    refine (lcX_ok (fun k zs T2 => T2 = T1 ∧ zs = ((q.ob.take k).map obD).map .pu) (fun k zs T2 ⟨h, _⟩ => by rw [h]; exact srcM_ob (e1.get g5)) ⟨rfl, by simp⟩ ?_).mono ?_
    · rintro k y done T2 hk ⟨rfl, rfl⟩
      have hk9 := (List.getElem?_eq_some_iff.mp hk).1
      have hk2 : k < q.ob.length := by rw [← hos.1]; exact hk9
      have hf : q.ob[k]? = some q.ob[k] := List.getElem?_eq_getElem hk2
      obtain ⟨j, x1, rfl, _, f1, f2⟩ := hos.2 k y _ hk hf
      have qf := ixO (e1.get f1)
      rw [take_succ' hf]
      have t1 := tup_num (e1.get f2)
      refine ⟨⟨[.han o, .han n, .un, .un, .han j], T2⟩, by simp, .val true T2, rfl, true, T2, rfl, fun _ => ?_, fun h => nomatch h⟩
      have tk : (List.map (HV.pu ∘ obD) q.ob)[k]? = some (.pu (obD q.ob[k])) := by rw [List.getElem?_map, hf]; rfl
      simp [qf, t1, tupK, ll]
      exact ⟨_, _, ⟨rfl, rfl⟩, rfl, by rw [take_succ' tk]; rfl⟩
    · rintro ⟨zs, T2⟩ ⟨h9, h8⟩
      have h9 : T2 = T1 := h9
      have h8 : zs = _ := h8
      subst h9
      subst h8
      rw [hos.1, List.take_length]
      refine ⟨_, _, ⟨rfl, rfl⟩, Ext.app _ _, by simp⟩
  rintro r ⟨n2, T2, rfl, e2, m2⟩
  refine ⟨_, rfl, ?_⟩
  have e12 := e1.trans e2
  have q1 := ix0 (e12.get h1)
  have t1 := tup_num (e12.get g1)
  have t2 := tup_num (e12.get g3)
  have t3 := tup_num (e12.get g4)
  have tt : ∀ {n : Nat} {ds : List D}, T2[n]? = some (lstM (ds.map .pu)) → tupOfK (.ob n) T2 = some (.val (.pu (.tup ds)) T2) := fun h => by
    unfold tupOfK
    rw [srcM_ob h]
    simp only [Option.bind_some, pures_map]
  have t4 := tt (e2.get m1)
  have t5 := tt m2
  simp [q1, t1, t2, t3, t4, t5, tupK, ll, pD, pL]
  exact e12
end Lw
namespace Lw
open PySem L2 Vf
/-! changes -/
theorem in_ints {d : Int} {zs : List Int} : oIn (.N, .int d) (.N, .lst (zs.map D.int)) = some (.N, .bl (decide (d ∈ zs))) := by
  rw [oIn_lst (by simp [isS])]
  congr 3
  induction zs with
  | nil => simp
  | cons z zs ih =>
    simp only [List.map_cons, List.any_cons, ih]
    have e : eqS (.int z) (.int d) = decide (z = d) := by
      rfl
    rw [e]
    by_cases h : d = z
    · subst h; simp
    · have h' : ¬ z = d := fun e => h e.symm
      simp [h, h']
theorem len_num {T : Tb} {n : Nat} {ns : List Int} (h : T[n]? = some (numM ns)) : lenK (.ob n) T = some (.val (.pu (.int (ns.length : Int))) T) := by
  rw [lenK_ob (srcM_ob h)]
  simp [iH]
theorem ixN_at {n : Nat} {i : Int} (h0 : 0 ≤ i) (h1 : i < n) : ixN n i = some i.toNat := by
  unfold ixN
  simp [h0, h1]
theorem iH_app (ns : List Int) (v : Int) : iH ns ++ [.pu (.int v)] = iH (ns ++ [v]) := by simp [iH]
theorem mPop_iH {ns : List Int} (h : 0 < ns.length) : ∃ v, mPop (iH ns) [] = some (.pu (.int v), iH ns.dropLast) := by
  have hl : ns.length - 1 < ns.length := by omega
  refine ⟨ns[ns.length - 1], ?_⟩
  unfold mPop
  simp only [iH, List.length_map]
  rw [List.getElem?_map, List.getElem?_eq_getElem hl]
  simp [List.map_dropLast]
theorem mPop_any {ys : List HV} (h : 0 < ys.length) : ∃ v, mPop ys [] = some (v, ys.dropLast) := by
  have hl : ys.length - 1 < ys.length := by omega
  refine ⟨ys[ys.length - 1], ?_⟩
  unfold mPop
  rw [List.getElem?_eq_getElem hl]
  rfl
theorem mRev_any (ys : List HV) : mRev ys [] = some (.pu .non, ys.reverse) := rfl
theorem mIns_0 {ys : List HV} {y : HV} (h : ys.length ≤ lim) : mIns ys [.pu (.int 0), y] = some (.pu .non, [y] ++ ys) := by
  show cif _ _ none = _
  rw [cif_pos ⟨h, by decide, by decide⟩]
  simp
theorem len_ob {T : Tb} {n : Nat} {ys : List HV} (h : T[n]? = some (lstM ys)) : lenK (.ob n) T = some (.val (.pu (.int ys.length)) T) := by
  rw [lenK_ob (srcM_ob h)]
  rfl
section
variable {G : Gm} {B : Nat} {T : Tb} {p : Pic} {rw : List Int} {o rn mi : Nat} {w at' dd : Int} {s8 s9 s10 : Sl}
/-- the names, where the changes begin -/
abbrev evC (p : Pic) (rw : List Int) (o : Nat) (w : Int) (rn : Nat) (at' : Int) (mi : Nat) (dd : Int) (s8 s9 s10 : Sl) (T : Tb) : Ev := ⟨[.val .N (.lst (lsL p)), .val .N (.lst (rw.map D.int)), .han o, .val .N (.int w), .han rn, .val .N (.int at'), .han mi, .val .N (.int dd), s8, s9, s10], T⟩
theorem st7 (hT : Ty G B T) (hB : B ≤ 9000) (hm : G mi = .num) {r4 : Int} (e4 : atI (rw.map D.int) 4 = some (.int r4)) : Ok ((zIf (xAndT (xP (sBl (sOp oLe (sVar 7) (sLit (.int 3))))) (xBl (xOp oGt (xLen (xH (hVar 6))) (xE (sLit (.int 0))))))
  (zPut (xH (hVar 6)) (xOp oMod (xE (sB intB (sCons (sOp oIx (sVar 1) (sLit (.int 4))) sNil))) (xLen (xH (hVar 6)))) (xE (sVar 3)))
  zNx) (evC p rw o w rn at' mi dd s8 s9 s10 T)) fun r => ∃ T', r = .nx (evC p rw o w rn at' mi dd s8 s9 s10 T') ∧ Ty G (B + 1) T' := by
  obtain ⟨ns, h1, h2⟩ := hT.num hm
  have hlen := len_num h1
  by_cases c1 : dd ≤ 3
  · by_cases c2 : 0 < ns.length
    · have c2' : (0 : Int) < (ns.length : Int) := by omega
      have m0 := Int.emod_nonneg r4 (show (ns.length : Int) ≠ 0 by omega)
      have m1 := Int.emod_lt_of_pos r4 c2'
      have hix := ixN_at m0 m1
      have h9 := hT.setNum hm (B' := B + 1) (ns := ns.set (r4 % ns.length).toNat w) (by omega) (by simp; omega)
      simp only [numM, iH, List.map_set] at h9
      simp [c1, c2, c2', hlen, e4, putZ_lst h1, hix]
      exact h9
    · have c3 : ns.length = 0 := by omega
      simp [c1, c2, c3, hlen]
      exact hT.up (by omega)
  · simp [c1]
    exact hT.up (by omega)
theorem st8 (hT : Ty G B T) (hB : B ≤ 9000) (hm : G mi = .num) : Ok ((zIf (xP (sBl (sOp oIn (sVar 7) (sL (sLd (sCons (sLit (.int 4)) (sCons (sLit (.int 5)) sNil)))))))
  (zDo (xLm mApp (xH (hVar 6)) (xCons (xE (sVar 3)) xNil)))
  zNx) (evC p rw o w rn at' mi dd s8 s9 s10 T)) fun r => ∃ T', r = .nx (evC p rw o w rn at' mi dd s8 s9 s10 T') ∧ Ty G (B + 1) T' := by
  obtain ⟨ns, h1, h2⟩ := hT.num hm
  have hi : oIn (.N, .int dd) (.N, .lst [.int 4, .int 5]) = some (.N, .bl (decide (dd ∈ [4, 5]))) := in_ints (zs := [4, 5])
  have ll : 2 ≤ lim ∧ ns.length ≤ lim := ⟨by decide, by unfold lim; omega⟩
  have ha := iH_app ns w
  by_cases c : dd ∈ [4, 5]
  · simp only [c, decide_true] at hi
    have h9 := hT.setNum hm (B' := B + 1) (ns := ns ++ [w]) (by omega) (by simp; omega)
    simp only [numM, iH, List.map_append, List.map_cons, List.map_nil] at h9
    simp [hi, ll, isLst_ob h1, lmK_ob h1]
    exact h9
  · simp only [c, decide_false] at hi
    simp [hi, ll]
    exact hT.up (by omega)
theorem st9 (hT : Ty G B T) (hB : B ≤ 9000) (hm : G mi = .num) : Ok ((zIf (xAndT (xP (sBl (sOp oIn (sVar 7) (sL (sLd (sCons (sLit (.int 6)) (sCons (sLit (.int 7)) sNil))))))) (xBl (xOp oGt (xLen (xH (hVar 6))) (xE (sLit (.int 0))))))
  (zDo (xLm mPop (xH (hVar 6)) xNil))
  zNx) (evC p rw o w rn at' mi dd s8 s9 s10 T)) fun r => ∃ T', r = .nx (evC p rw o w rn at' mi dd s8 s9 s10 T') ∧ Ty G (B + 1) T' := by
  obtain ⟨ns, h1, h2⟩ := hT.num hm
  have hi : oIn (.N, .int dd) (.N, .lst [.int 6, .int 7]) = some (.N, .bl (decide (dd ∈ [6, 7]))) := in_ints (zs := [6, 7])
  have ll : 2 ≤ lim ∧ ns.length ≤ lim := ⟨by decide, by unfold lim; omega⟩
  have hlen := len_num h1
  by_cases c : dd ∈ [6, 7]
  · simp only [c, decide_true] at hi
    by_cases c2 : 0 < ns.length
    · have c2' : (0 : Int) < (ns.length : Int) := by omega
      obtain ⟨v, hv⟩ := mPop_iH c2
      have h9 := hT.setNum hm (B' := B + 1) (ns := ns.dropLast) (by omega) (by simp; omega)
      simp [hi, ll, c2, c2', hlen, isLst_ob h1, lmK_ob h1, hv]
      rw [← List.map_dropLast]
      exact h9
    · have c3 : ns.length = 0 := by omega
      simp [hi, ll, c2, c3, hlen]
      exact hT.up (by omega)
  · simp only [c, decide_false] at hi
    simp [hi, ll]
    exact hT.up (by omega)
theorem st10 (hT : Ty G B T) (hB : B ≤ 9000) (hm : G mi = .num) : Ok ((zIf (xP (sBl (sOp oIn (sVar 7) (sL (sLd (sCons (sLit (.int 8)) (sCons (sLit (.int 9)) sNil)))))))
  (zDo (xLm mRev (xH (hVar 6)) xNil))
  zNx) (evC p rw o w rn at' mi dd s8 s9 s10 T)) fun r => ∃ T', r = .nx (evC p rw o w rn at' mi dd s8 s9 s10 T') ∧ Ty G (B + 1) T' := by
  obtain ⟨ns, h1, h2⟩ := hT.num hm
  have hi : oIn (.N, .int dd) (.N, .lst [.int 8, .int 9]) = some (.N, .bl (decide (dd ∈ [8, 9]))) := in_ints (zs := [8, 9])
  have ll : 2 ≤ lim ∧ ns.length ≤ lim := ⟨by decide, by unfold lim; omega⟩
  have hr : (iH ns).reverse = iH ns.reverse := List.map_reverse.symm
  by_cases c : dd ∈ [8, 9]
  · simp only [c, decide_true] at hi
    simp [hi, ll, isLst_ob h1, lmK_ob h1, mRev_any, -List.map_reverse]
    rw [hr]
    exact hT.setNum hm (by omega) (by simp; omega)
  · simp only [c, decide_false] at hi
    simp [hi, ll]
    exact hT.up (by omega)
theorem st11 (hT : Ty G B T) (hB : B ≤ 9000) (hm : G mi = .num) (hr : G rn = .rows) (h0 : 0 ≤ at') : Ok ((zIf (xAndT (xP (sBl (sOp oEq (sVar 7) (sLit (.int 10))))) (xAndT (xBl (xOp oGt (xLen (xH (hVar 6))) (xE (sLit (.int 0))))) (xBl (xOp oLt (xE (sOp oAdd (sVar 5) (sLit (.int 1)))) (xLen (xH (hVar 4)))))))
  (zDo (xLm mIns (xIx (xH (hVar 4)) (xE (sOp oAdd (sVar 5) (sLit (.int 1))))) (xCons (xE (sLit (.int 0))) (xCons (xLm mPop (xH (hVar 6)) xNil) xNil))))
  zNx) (evC p rw o w rn at' mi dd s8 s9 s10 T)) fun r => ∃ T', r = .nx (evC p rw o w rn at' mi dd s8 s9 s10 T') ∧ Ty G (B + 1) T' := by
  obtain ⟨ns, h1, h2⟩ := hT.num hm
  obtain ⟨ys, g1, g2, g3, g4⟩ := hT.rows hr
  have hlen := len_num h1
  have hlen2 := len_ob g1
  by_cases c : dd = 10
  · by_cases c2 : 0 < ns.length
    · have c2' : (0 : Int) < (ns.length : Int) := by omega
      by_cases c3 : at' + 1 < ys.length
      · have hk : (at' + 1).toNat < ys.length := by omega
        have hy : atI ys (at' + 1) = some ys[(at' + 1).toNat] := by
          have := atI_nat (xs := ys) (j := (at' + 1).toNat) (List.getElem?_eq_getElem hk)
          rwa [Int.toNat_of_nonneg (by omega)] at this
        obtain ⟨j, hj, kj⟩ := g4 _ (List.getElem_mem hk)
        rw [hj] at hy
        obtain ⟨v, hv⟩ := mPop_iH c2
        obtain ⟨ms, k1, k2⟩ := hT.num kj
        have t2 : Ty G B (T.set mi (numM ns.dropLast)) := hT.setNum hm (Nat.le_refl _) (by simp; omega)
        obtain ⟨ks, q1, q2⟩ := t2.num kj
        have ll : (iH ks).length ≤ lim := by simp; unfold lim; omega
        have hx := ixX_lst (j := at' + 1) g1
        rw [hy] at hx
        have hins := mIns_0 (y := .pu (.int v)) ll
        simp [c, c2, c2', c3, hlen, hlen2, hx, isLst_ob k1, isLst_ob h1, lmK_ob h1, hv]
        have hq : lmK mIns (.ob j) [.pu (.int 0), .pu (.int v)] (T.set mi (some (Mob.lst (iH ns.dropLast)))) = some (.val (.pu .non) ((T.set mi (numM ns.dropLast)).set j (numM (v :: ks)))) := by
          rw [lmK_ob q1, hins]
          rfl
        rw [← List.map_dropLast, hq]
        simp
        exact t2.setNum kj (by omega) (by simp; omega)
      · simp [c, c2, c2', c3, hlen, hlen2]
        exact hT.up (by omega)
    · have c3 : ns.length = 0 := by omega
      simp [c, c2, c3, hlen]
      exact hT.up (by omega)
  · simp [c]
    exact hT.up (by omega)
theorem st12 (hT : Ty G B T) (ho : G o = .top) : Ok ((zIf (xP (sBl (sOp oEq (sVar 7) (sLit (.int 11)))))
  (zSet 2 (xLst (xCons (xIx (xH (hVar 2)) (xE (sLit (.int 0)))) (xCons (xIx (xH (hVar 2)) (xE (sLit (.int 1)))) (xCons (xIx (xH (hVar 2)) (xE (sLit (.int 3)))) (xCons (xIx (xH (hVar 2)) (xE (sLit (.int 2)))) (xCons (xIx (xH (hVar 2)) (xE (sLit (.int 4)))) xNil)))))))
  zNx) (evC p rw o w rn at' mi dd s8 s9 s10 T)) fun r => ∃ o' G' T', r = .nx (evC p rw o' w rn at' mi dd s8 s9 s10 T') ∧ Le G G' ∧ Ty G' B T' ∧ G' o' = .top := by
  obtain ⟨a, b, c, d, e, h1, ha, hb, hc, hd, he⟩ := hT.top ho
  have ll : 5 ≤ lim := by decide
  by_cases c9 : dd = 11
  · have l9 := hT.le (Nat.le_refl _) .top
    have t9 := hT.new (M := topM a b d c e) (K := .top) ⟨a, b, d, c, e, by simp, l9.num ha, l9.frms hb, l9.num hd, l9.num hc, l9.obs he⟩
    simp [c9, ix0 h1, lstK, ll]
    exact ⟨_, _, _, ⟨rfl, rfl⟩, l9, t9, gUp_at⟩
  · simp [c9]
    exact ⟨_, G, _, ⟨rfl, rfl⟩, Le.refl G, hT, ho⟩
end
end Lw
namespace Lw
open PySem L2 Vf
theorem Ty.setFrm {G : Gm} {B : Nat} {T : Tb} (h : Ty G B T) {j a b : Nat} (e : G j = .frm) {z0 z : Str} {n0 : Int} (n : Int) (h1 : T[j]? = some (frmM z0 n0 a b)) (ha : G a = .num) (hb : G b = .num) (hz : Nm z) : Ty G B (T.set j (frmM z n a b)) := h.set (Nat.le_refl _) (by
  rw [e]
  exact ⟨z, n, a, b, List.getElem?_set_self (get_lt h1), ha, hb, hz⟩)
theorem Ty.setOb {G : Gm} {B : Nat} {T : Tb} (h : Ty G B T) {j a : Nat} (e : G j = .ob) {z0 z : Str} (h1 : T[j]? = some (objM z0 a)) (ha : G a = .num) (hz : Nm z) : Ty G B (T.set j (objM z a)) := h.set (Nat.le_refl _) (by
  rw [e]
  exact ⟨z, a, List.getElem?_set_self (get_lt h1), ha, hz⟩)
theorem Ty.setFrms {G : Gm} {B : Nat} {T : Tb} (h : Ty G B T) {j : Nat} (e : G j = .frms) {ys zs : List HV} (h1 : T[j]? = some (lstM ys)) (hl : zs.length ≤ B) (hz : ∀ y ∈ zs, ∃ j, y = .ob j ∧ G j = .frm) : Ty G B (T.set j (lstM zs)) := h.set (Nat.le_refl _) (by
  rw [e]
  exact ⟨zs, List.getElem?_set_self (get_lt h1), hl, hz⟩)
theorem Ty.setObs {G : Gm} {B : Nat} {T : Tb} (h : Ty G B T) {j : Nat} (e : G j = .obs) {ys zs : List HV} (h1 : T[j]? = some (lstM ys)) (hl : zs.length ≤ B) (hz : ∀ y ∈ zs, ∃ j, y = .ob j ∧ G j = .ob) : Ty G B (T.set j (lstM zs)) := h.set (Nat.le_refl _) (by
  rw [e]
  exact ⟨zs, List.getElem?_set_self (get_lt h1), hl, hz⟩)
theorem atI_mod {α : Type} {ys : List α} (r : Int) (h : 0 < ys.length) : ∃ y ∈ ys, atI ys (r % (ys.length : Int)) = some y := by
  have m0 := Int.emod_nonneg r (show (ys.length : Int) ≠ 0 by omega)
  have m1 := Int.emod_lt_of_pos r (show (0 : Int) < (ys.length : Int) by omega)
  have hk : (r % (ys.length : Int)).toNat < ys.length := by omega
  refine ⟨ys[(r % (ys.length : Int)).toNat], List.getElem_mem hk, ?_⟩
  have := atI_nat (xs := ys) (j := (r % (ys.length : Int)).toNat) (List.getElem?_eq_getElem hk)
  rwa [Int.toNat_of_nonneg m0] at this
theorem ix42 : ixN 4 0 = some 0 ∧ ixN 4 1 = some 1 ∧ ixN 2 0 = some 0 := by decide
section
variable {G : Gm} {B : Nat} {T : Tb} {p : Pic} {rw : List Int} {o rn mi : Nat} {w at' dd : Int} {s8 s9 s10 : Sl}
theorem st13 (hT : Ty G B T) (hB : B ≤ 9000) (ho : G o = .top) {r2 r3 r4 : Int} (e2 : atI (rw.map D.int) 2 = some (.int r2)) (l2 : 0 ≤ r2) (u2 : r2 < 8) (e3 : atI (rw.map D.int) 3 = some (.int r3)) (e4 : atI (rw.map D.int) 4 = some (.int r4)) : Ok ((zIf (xAndT (xP (sBl (sOp oIn (sVar 7) (sL (sLd (sCons (sLit (.int 12)) (sCons (sLit (.int 13)) (sCons (sLit (.int 14)) (sCons (sLit (.int 15)) sNil))))))))) (xBl (xOp oGt (xLen (xIx (xH (hVar 2)) (xE (sLit (.int 1))))) (xE (sLit (.int 0))))))
  (zSeq (zSet 8 (xIx (xIx (xH (hVar 2)) (xE (sLit (.int 1)))) (xOp oMod (xE (sB intB (sCons (sOp oIx (sVar 1) (sLit (.int 4))) sNil))) (xLen (xIx (xH (hVar 2)) (xE (sLit (.int 1)))))))) (zSeq (zIf (xP (sBl (sOp oEq (sVar 7) (sLit (.int 12)))))
  (zPut (xH (hVar 8)) (xE (sLit (.int 0))) (xE (sCall g_law_name (sCons (sOp oIx (sVar 1) (sLit (.int 2))) (sCons (sLit (.bl false)) sNil)))))
  zNx) (zSeq (zIf (xP (sBl (sOp oEq (sVar 7) (sLit (.int 13)))))
  (zPut (xH (hVar 8)) (xE (sLit (.int 1))) (xE (sOp oMod (sOp oFd (sB intB (sCons (sOp oIx (sVar 1) (sLit (.int 3))) sNil)) (sLit (.int 8))) (sLit (.int 200)))))
  zNx) (zSeq (zIf (xP (sBl (sOp oEq (sVar 7) (sLit (.int 14)))))
  (zDo (xLm mPop (xIx (xH (hVar 2)) (xE (sLit (.int 1)))) xNil))
  zNx) (zIf (xP (sBl (sOp oEq (sVar 7) (sLit (.int 15)))))
  (zDo (xLm mRev (xIx (xH (hVar 2)) (xE (sLit (.int 1)))) xNil))
  zNx)))))
  zNx) (evC p rw o w rn at' mi dd s8 s9 s10 T)) fun r => ∃ s8 T', r = .nx (evC p rw o w rn at' mi dd s8 s9 s10 T') ∧ Ty G B T' := by
  obtain ⟨a, b, c, d, e, h1, ha, hb, hc, hd, he⟩ := hT.top ho
  obtain ⟨ys, g1, g2, g3⟩ := hT.frms hb
  have q := ix0 h1
  have hlen := len_ob g1
  have hi : oIn (.N, .int dd) (.N, .lst [.int 12, .int 13, .int 14, .int 15]) = some (.N, .bl (decide (dd ∈ [12, 13, 14, 15]))) := in_ints (zs := [12, 13, 14, 15])
  have ll : 4 ≤ lim := by decide
  by_cases cm : dd ∈ [12, 13, 14, 15]
  · simp only [cm, decide_true] at hi
    by_cases c2 : 0 < ys.length
    · have c2' : (0 : Int) < (ys.length : Int) := by omega
      obtain ⟨y, hym, hy⟩ := atI_mod r4 c2
      obtain ⟨j, rfl, hj⟩ := g3 y hym
      obtain ⟨z, n, x1, x2, f1, f2, f3, f4⟩ := hT.frm hj
      have hx := ixX_lst (j := r4 % (ys.length : Int)) g1
      rw [hy] at hx
      obtain ⟨r, hnm, z', rfl, hz1, hz2⟩ := law_name_at l2 u2 false
      obtain ⟨v, hv⟩ := mPop_any c2
      have hpop := hT.setFrms hb (zs := ys.dropLast) g1 (by simp; omega) fun y hy => g3 y (List.dropLast_subset _ hy)
      have hrev := hT.setFrms hb (zs := ys.reverse) g1 (by simp; omega) fun y hy => g3 y (List.mem_reverse.mp hy)
      have hp1 := hT.setFrm hj (z := z') n f1 f2 f3 ⟨hz1, hz2⟩
      have hp2 := hT.setFrm hj (z := z) (r3 / 8 % 200) f1 f2 f3 f4
      have ix := ix42
      have cm' : dd = 12 ∨ dd = 13 ∨ dd = 14 ∨ dd = 15 := by simpa using cm
      rcases cm' with rfl | rfl | rfl | rfl
      · simp [hi, ll, q, hlen, c2, c2', hx, e2, e3, e4, hnm, putZ_lst f1, ix]
        exact ⟨_, _, ⟨rfl, rfl⟩, hp1⟩
      · simp [hi, ll, q, hlen, c2, c2', hx, e2, e3, e4, putZ_lst f1, ix]
        exact ⟨_, _, ⟨rfl, rfl⟩, hp2⟩
      · simp [hi, ll, q, hlen, c2, c2', hx, e2, e3, e4, isLst_ob g1, lmK_ob g1, hv]
        exact ⟨_, _, ⟨rfl, rfl⟩, hpop⟩
      · simp [hi, ll, q, hlen, c2, c2', hx, e2, e3, e4, isLst_ob g1, lmK_ob g1, mRev_any]
        exact ⟨_, _, ⟨rfl, rfl⟩, hrev⟩
    · have c3 : ys.length = 0 := by omega
      simp [hi, ll, q, hlen, c3]
      exact ⟨_, _, ⟨rfl, rfl⟩, hT⟩
  · simp only [cm, decide_false] at hi
    simp [hi, ll]
    exact ⟨_, _, ⟨rfl, rfl⟩, hT⟩
theorem st14 (hT : Ty G B T) (hB : B ≤ 9000) (ho : G o = .top) {r1 r2 r4 : Int} (e1 : atI (rw.map D.int) 1 = some (.int r1)) (e2 : atI (rw.map D.int) 2 = some (.int r2)) (l2 : 0 ≤ r2) (u2 : r2 < 8) (e4 : atI (rw.map D.int) 4 = some (.int r4)) : Ok ((zIf (xAndT (xP (sBl (sOp oIn (sVar 7) (sL (sLd (sCons (sLit (.int 16)) (sCons (sLit (.int 17)) (sCons (sLit (.int 18)) (sCons (sLit (.int 19)) (sCons (sLit (.int 20)) (sCons (sLit (.int 21)) sNil))))))))))) (xBl (xOp oGt (xLen (xIx (xH (hVar 2)) (xE (sLit (.int 4))))) (xE (sLit (.int 0))))))
  (zSeq (zSet 9 (xIx (xIx (xH (hVar 2)) (xE (sLit (.int 4)))) (xOp oMod (xE (sB intB (sCons (sOp oIx (sVar 1) (sLit (.int 4))) sNil))) (xLen (xIx (xH (hVar 2)) (xE (sLit (.int 4)))))))) (zSeq (zSet 10 (xIx (xH (hVar 9)) (xE (sLit (.int 1))))) (zSeq (zIf (xP (sBl (sOp oEq (sVar 7) (sLit (.int 16)))))
  (zPut (xH (hVar 9)) (xE (sLit (.int 0))) (xE (sCall g_law_name (sCons (sOp oIx (sVar 1) (sLit (.int 2))) (sCons (sLit (.bl false)) sNil)))))
  zNx) (zSeq (zIf (xAndT (xP (sBl (sOp oEq (sVar 7) (sLit (.int 17))))) (xBl (xOp oGt (xLen (xH (hVar 10))) (xE (sLit (.int 0))))))
  (zPut (xH (hVar 10)) (xOp oMod (xE (sB intB (sCons (sOp oIx (sVar 1) (sLit (.int 1))) sNil))) (xLen (xH (hVar 10)))) (xE (sVar 3)))
  zNx) (zSeq (zIf (xP (sBl (sOp oEq (sVar 7) (sLit (.int 18)))))
  (zDo (xLm mApp (xH (hVar 10)) (xCons (xE (sVar 3)) xNil)))
  zNx) (zSeq (zIf (xP (sBl (sOp oEq (sVar 7) (sLit (.int 19)))))
  (zDo (xLm mRev (xH (hVar 10)) xNil))
  zNx) (zSeq (zIf (xP (sBl (sOp oEq (sVar 7) (sLit (.int 20)))))
  (zDo (xLm mPop (xIx (xH (hVar 2)) (xE (sLit (.int 4)))) xNil))
  zNx) (zIf (xP (sBl (sOp oEq (sVar 7) (sLit (.int 21)))))
  (zDo (xLm mRev (xIx (xH (hVar 2)) (xE (sLit (.int 4)))) xNil))
  zNx))))))))
  zNx) (evC p rw o w rn at' mi dd s8 s9 s10 T)) fun r => ∃ s9 s10 T', r = .nx (evC p rw o w rn at' mi dd s8 s9 s10 T') ∧ Ty G (B + 1) T' := by
  obtain ⟨a, b, c, d, e, h1, ha, hb, hc, hd, he⟩ := hT.top ho
  obtain ⟨ys, g1, g2, g3⟩ := hT.obs he
  have q := ix0 h1
  have hlen := len_ob g1
  have hi : oIn (.N, .int dd) (.N, .lst [.int 16, .int 17, .int 18, .int 19, .int 20, .int 21]) = some (.N, .bl (decide (dd ∈ [16, 17, 18, 19, 20, 21]))) := in_ints (zs := [16, 17, 18, 19, 20, 21])
  have ll : 6 ≤ lim := by decide
  by_cases cm : dd ∈ [16, 17, 18, 19, 20, 21]
  · simp only [cm, decide_true] at hi
    by_cases c2 : 0 < ys.length
    · have c2' : (0 : Int) < (ys.length : Int) := by omega
      obtain ⟨y, hym, hy⟩ := atI_mod r4 c2
      obtain ⟨j, rfl, hj⟩ := g3 y hym
      obtain ⟨z, x1, f1, f2, f4⟩ := hT.ob hj
      obtain ⟨ns, m1, m2⟩ := hT.num f2
      have hx := ixX_lst (j := r4 % (ys.length : Int)) g1
      rw [hy] at hx
      have qo := ixO f1
      obtain ⟨r, hnm, z', rfl, hz1, hz2⟩ := law_name_at l2 u2 false
      obtain ⟨v, hv⟩ := mPop_any c2
      have hpop := (hT.setObs he (zs := ys.dropLast) g1 (by simp; omega) fun y hy => g3 y (List.dropLast_subset _ hy)).up (Nat.le_succ B)
      have hrev := (hT.setObs he (zs := ys.reverse) g1 (by simp; omega) fun y hy => g3 y (List.mem_reverse.mp hy)).up (Nat.le_succ B)
      have hp1 := (hT.setOb hj (z := z') f1 f2 ⟨hz1, hz2⟩).up (Nat.le_succ B)
      have happ := hT.setNum f2 (B' := B + 1) (ns := ns ++ [w]) (by omega) (by simp; omega)
      simp only [numM, iH, List.map_append, List.map_cons, List.map_nil] at happ
      have hnrev := hT.setNum f2 (B' := B + 1) (ns := ns.reverse) (by omega) (by simp; omega)
      have hlen2 := len_num m1
      have hnl : ns.length ≤ lim := by unfold lim; omega
      have ix := ix42
      have cm' : dd = 16 ∨ dd = 17 ∨ dd = 18 ∨ dd = 19 ∨ dd = 20 ∨ dd = 21 := by simpa using cm
      rcases cm' with rfl | rfl | rfl | rfl | rfl | rfl
      · simp [hi, ll, q, hlen, c2, c2', hx, qo, e2, e4, hnm, putZ_lst f1, ix]
        exact ⟨_, _, _, ⟨⟨rfl, rfl⟩, rfl⟩, hp1⟩
      · by_cases c4 : 0 < ns.length
        · have c4' : (0 : Int) < (ns.length : Int) := by omega
          have k0 := Int.emod_nonneg r1 (show (ns.length : Int) ≠ 0 by omega)
          have k1 := Int.emod_lt_of_pos r1 c4'
          have hix := ixN_at k0 k1
          have hset := hT.setNum f2 (B' := B + 1) (ns := ns.set (r1 % ns.length).toNat w) (by omega) (by simp; omega)
          simp only [numM, iH, List.map_set] at hset
          simp [hi, ll, q, hlen, c2, c2', hx, qo, e1, e4, hlen2, c4, c4', putZ_lst m1, hix]
          exact ⟨_, _, _, ⟨⟨rfl, rfl⟩, rfl⟩, hset⟩
        · have c5 : ns.length = 0 := by omega
          simp [hi, ll, q, hlen, c2, c2', hx, qo, e1, e4, hlen2, c5]
          exact ⟨_, _, _, ⟨⟨rfl, rfl⟩, rfl⟩, hT.up (Nat.le_succ B)⟩
      · simp [hi, ll, q, hlen, c2, c2', hx, qo, e4, isLst_ob m1, lmK_ob m1, hnl]
        exact ⟨_, _, _, ⟨⟨rfl, rfl⟩, rfl⟩, happ⟩
      · simp [hi, ll, q, hlen, c2, c2', hx, qo, e4, isLst_ob m1, lmK_ob m1, mRev_any, -List.map_reverse]
        rw [← List.map_reverse]
        exact ⟨_, _, _, ⟨⟨rfl, rfl⟩, rfl⟩, hnrev⟩
      · simp [hi, ll, q, hlen, c2, c2', hx, qo, e4, isLst_ob g1, lmK_ob g1, hv]
        exact ⟨_, _, _, ⟨⟨rfl, rfl⟩, rfl⟩, hpop⟩
      · simp [hi, ll, q, hlen, c2, c2', hx, qo, e4, isLst_ob g1, lmK_ob g1, mRev_any]
        exact ⟨_, _, _, ⟨⟨rfl, rfl⟩, rfl⟩, hrev⟩
    · have c3 : ys.length = 0 := by omega
      simp [hi, ll, q, hlen, c3]
      exact ⟨_, _, _, ⟨⟨rfl, rfl⟩, rfl⟩, hT.up (Nat.le_succ B)⟩
  · simp only [cm, decide_false] at hi
    simp [hi, ll]
    exact ⟨_, _, _, ⟨⟨rfl, rfl⟩, rfl⟩, hT.up (Nat.le_succ B)⟩
end
end Lw
namespace Lw
open PySem L2 Vf
theorem law_changed_at {p : Pic} (hp : PicS p) {G : Gm} {T : Tb} (hT : Ty G 4000 T) {rw : List Int} (hr : RowOk [24, 93, 8, 137438953472, 97] rw 0) : Ok (g_law_changed [.pu (.lst (lsL p)), .pu (.lst (rw.map D.int))] T) fun r => ∃ o T' G', r = .val (.ob o) T' ∧ Le G G' ∧ Ty G' 4010 T' ∧ G' o = .top := by
  obtain ⟨r0, e0, l0, u0⟩ : ∃ d : Int, atI (rw.map D.int) 0 = some (.int d) ∧ 0 ≤ d ∧ d < 24 := hr.h 0 (by decide)
  obtain ⟨r1, e1, l1, u1⟩ : ∃ d : Int, atI (rw.map D.int) 1 = some (.int d) ∧ 0 ≤ d ∧ d < 93 := hr.h 1 (by decide)
  obtain ⟨r2, e2, l2, u2⟩ : ∃ d : Int, atI (rw.map D.int) 2 = some (.int d) ∧ 0 ≤ d ∧ d < 8 := hr.h 2 (by decide)
  obtain ⟨r3, e3, l3, u3⟩ : ∃ d : Int, atI (rw.map D.int) 3 = some (.int d) ∧ 0 ≤ d ∧ d < 137438953472 := hr.h 3 (by decide)
  obtain ⟨r4, e4, l4, u4⟩ : ∃ d : Int, atI (rw.map D.int) 4 = some (.int d) ∧ 0 ≤ d ∧ d < 97 := hr.h 4 (by decide)
  obtain ⟨r, hl, o, T1, G1, rfl, x1, y1, t1, k1, _⟩ := law_listed_at hp hT (by omega)
  have hob := hp.ob2
  have hobl : p.ob.length ≤ lim := by unfold lim; omega
  have i4 : atI (lsL p) 4 = some (.lst (p.ob.map obLD)) := rfl
  unfold g_law_changed
  rw [gFX_at (by rfl), Ok_bind]
  unfold F_law_changed
  refine seq_step (P := fun r => r = .nx ⟨[.val .N (.lst (lsL p)), .val .N (.lst (rw.map D.int)), .han o, .un, .un, .un, .un, .un, .un, .un, .un], T1⟩) ?_ ?_
  · simp [hl]
  rintro r rfl
  refine ⟨_, rfl, ?_⟩
  clear hl
  have hw := law_word_at (d := r3) (m := (p.ob.length : Int)) (t := 6) l3 (by omega) (by omega) (by omega)
  obtain ⟨r, hw, w, rfl⟩ := hw
  refine seq_step (P := fun r => r = .nx ⟨[.val .N (.lst (lsL p)), .val .N (.lst (rw.map D.int)), .han o, .val .N (.int w), .un, .un, .un, .un, .un, .un, .un], T1⟩) ?_ ?_
  · simp [e3, i4, hobl, hw]
  rintro r rfl
  refine ⟨_, rfl, ?_⟩
  obtain ⟨r, hrx, rn, T2, G2, rfl, x2, y2, t2, k2⟩ := law_rowsX_at t1 (by omega) k1
  refine seq_step (P := fun r => r = .nx ⟨[.val .N (.lst (lsL p)), .val .N (.lst (rw.map D.int)), .han o, .val .N (.int w), .han rn, .un, .un, .un, .un, .un, .un], T2⟩) ?_ ?_
  · simp [hrx]
  rintro r rfl
  refine ⟨_, rfl, ?_⟩
  clear hrx
  obtain ⟨ys, g1, g2, g3, g4⟩ := t2.rows k2
  have hlen := len_ob g1
  have ll : 4 ≤ lim := by decide
  have c2 : (0 : Int) < (ys.length : Int) := by omega
  refine seq_step (P := fun r => ∃ at' T3, r = .nx ⟨[.val .N (.lst (lsL p)), .val .N (.lst (rw.map D.int)), .han o, .val .N (.int w), .han rn, .val .N (.int at'), .un, .un, .un, .un, .un], T3⟩ ∧ Ext T2 T3 ∧ 0 ≤ at' ∧ at' < ys.length) ?_ ?_
  · have m0 := Int.emod_nonneg r1 (show (ys.length : Int) ≠ 0 by omega)
    have m1 := Int.emod_lt_of_pos r1 c2
    obtain ⟨v, hv0, hv1, hv⟩ : ∃ v : Int, 0 ≤ v ∧ v < ys.length ∧ atI [HV.pu (.int 0), .pu (.int ((ys.length : Int) - 2)), .pu (.int ((ys.length : Int) - 1)), .pu (.int (r1 % (ys.length : Int)))] (r2 % 4) = some (.pu (.int v)) := by
      have h4 : r2 % 4 = 0 ∨ r2 % 4 = 1 ∨ r2 % 4 = 2 ∨ r2 % 4 = 3 := by omega
      rcases h4 with h4 | h4 | h4 | h4 <;> rw [h4]
      · exact ⟨0, by omega, by omega, rfl⟩
      · exact ⟨_, by omega, by omega, rfl⟩
      · exact ⟨_, by omega, by omega, rfl⟩
      · exact ⟨_, m0, m1, rfl⟩
    have g9 : (T2 ++ [lstM [HV.pu (.int 0), .pu (.int ((ys.length : Int) - 2)), .pu (.int ((ys.length : Int) - 1)), .pu (.int (r1 % (ys.length : Int)))]])[T2.length]? = some (lstM [HV.pu (.int 0), .pu (.int ((ys.length : Int) - 2)), .pu (.int ((ys.length : Int) - 1)), .pu (.int (r1 % (ys.length : Int)))]) := by simp
    have hx := ixX_lst (j := r2 % 4) g9
    rw [hv] at hx
    simp [hlen, e1, e2, c2, lstK, ll]
    simp only [lstM] at hx
    simp [hx]
    exact ⟨by omega, _, _, ⟨rfl, rfl⟩, Ext.app _ _, hv0, hv1⟩
  rintro r ⟨at', T3, rfl, x3, a0, a1⟩
  refine ⟨_, rfl, ?_⟩
  have t3 := t2.ext x3
  have hk : at'.toNat < ys.length := by omega
  have hy : atI ys at' = some ys[at'.toNat] := by
    have := atI_nat (xs := ys) (j := at'.toNat) (List.getElem?_eq_getElem hk)
    rwa [Int.toNat_of_nonneg a0] at this
  obtain ⟨mi, hj, km⟩ := g4 _ (List.getElem_mem hk)
  rw [hj] at hy
  have hx := ixX_lst (j := at') (x3.get g1)
  rw [hy] at hx
  refine seq_step (P := fun r => r = .nx ⟨[.val .N (.lst (lsL p)), .val .N (.lst (rw.map D.int)), .han o, .val .N (.int w), .han rn, .val .N (.int at'), .han mi, .un, .un, .un, .un], T3⟩) ?_ ?_
  · simp [hx]
  rintro r rfl
  refine ⟨_, rfl, ?_⟩
  refine seq_step (P := fun r => r = .nx (evC p rw o w rn at' mi r0 .un .un .un T3)) ?_ ?_
  · simp [e0]
  rintro r rfl
  refine ⟨_, rfl, ?_⟩
  have ko := y2.top k1
  refine seq_step (st7 t3 (by omega) km e4) ?_
  rintro r ⟨T4, rfl, t4⟩
  refine ⟨_, rfl, ?_⟩
  refine seq_step (st8 t4 (by omega) km) ?_
  rintro r ⟨T5, rfl, t5⟩
  refine ⟨_, rfl, ?_⟩
  refine seq_step (st9 t5 (by omega) km) ?_
  rintro r ⟨T6, rfl, t6⟩
  refine ⟨_, rfl, ?_⟩
  refine seq_step (st10 t6 (by omega) km) ?_
  rintro r ⟨T7, rfl, t7⟩
  refine ⟨_, rfl, ?_⟩
  refine seq_step (st11 t7 (by omega) km k2 a0) ?_
  rintro r ⟨T8, rfl, t8⟩
  refine ⟨_, rfl, ?_⟩
  refine seq_step (st12 t8 ko) ?_
  rintro r ⟨o9, G9, T9, rfl, y9, t9, ko9⟩
  refine ⟨_, rfl, ?_⟩
  refine seq_step (st13 t9 (by omega) ko9 e2 l2 u2 e3 e4) ?_
  rintro r ⟨s8, T10, rfl, t10⟩
  refine ⟨_, rfl, ?_⟩
  refine seq_step (st14 t10 (by omega) ko9 e1 e2 l2 u2 e4) ?_
  rintro r ⟨s9, s10, T11, rfl, t11⟩
  refine ⟨_, rfl, ?_⟩
  simp
  exact ⟨o9, T11, ⟨rfl, rfl⟩, G9, (y1.trans y2).trans y9, t11.up (by omega), ko9⟩
end Lw
namespace Lw
open PySem L2 Vf
/-! equal or not -/
def Pg (n : Nat) (d : D) : Prop := pyOk d = true ∧ (py d).canLay0 = true ∧ (py d).depth ≤ n
theorem pg_int (n : Nat) (i : Int) : Pg n (.int i) := ⟨rfl, rfl, by show 0 ≤ n; omega⟩
theorem pg_str (n : Nat) {z : Str} (h : PyData.strOk z = true) : Pg n (.str z) := ⟨rfl, h, by show 0 ≤ n; omega⟩
theorem pg_all {n : Nat} {ds : List D} (h : ∀ d ∈ ds, Pg n d) : pyOkL ds = true ∧ PyData.canLayAll0 (pyL ds) = true ∧ PyData.depthAll (pyL ds) ≤ n := by
  induction ds with
  | nil => exact ⟨rfl, rfl, Nat.zero_le _⟩
  | cons d ds ih =>
    obtain ⟨q1, q2, q3⟩ := ih fun x hx => h x (List.mem_cons_of_mem _ hx)
    obtain ⟨r1, r2, r3⟩ := h d List.mem_cons_self
    refine ⟨?_, ?_, ?_⟩
    · show (pyOk d && pyOkL ds) = true
      rw [q1, r1]; rfl
    · show PyData.canLayAll0 (py d :: pyL ds) = true
      rw [PyData.canLayAll0, q2, r2]; rfl
    · show PyData.depthAll (py d :: pyL ds) ≤ n
      rw [PyData.depthAll]
      omega
theorem pg_lst {n : Nat} {ds : List D} (h : ∀ d ∈ ds, Pg n d) : Pg (n + 1) (.lst ds) := by
  obtain ⟨q1, q2, q3⟩ := pg_all h
  refine ⟨by rw [pyOk]; exact q1, by rw [py, PyData.canLay0]; exact q2, ?_⟩
  rw [py, PyData.depth]
  omega
theorem pg_tup {n : Nat} {ds : List D} (h : ∀ d ∈ ds, Pg n d) : Pg (n + 1) (.tup ds) := by
  obtain ⟨q1, q2, q3⟩ := pg_all h
  refine ⟨by rw [pyOk]; exact q1, by rw [py, PyData.canLay0]; exact q2, ?_⟩
  rw [py, PyData.depth]
  omega
theorem pg_ints (n : Nat) (ns : List Int) : ∀ d ∈ ns.map D.int, Pg n d := fun d hd => by
  obtain ⟨i, _, rfl⟩ := List.mem_map.mp hd
  exact pg_int n i
theorem pg_D {p : Pic} (hp : PicOk p) : Pg 5 (pD p) := by
  refine pg_tup fun d hd => ?_
  simp only [pL, List.mem_cons, List.not_mem_nil, or_false] at hd
  rcases hd with rfl | rfl | rfl | rfl | rfl
  · exact pg_tup (pg_ints 3 _)
  · refine pg_tup fun d hd => ?_
    obtain ⟨f, hf, rfl⟩ := List.mem_map.mp hd
    refine pg_tup fun d hd => ?_
    simp only [List.mem_cons, List.not_mem_nil, or_false] at hd
    rcases hd with rfl | rfl | rfl | rfl
    · exact pg_str _ (hp.fr1 f hf).so
    · exact pg_int _ _
    · exact pg_tup (pg_ints 1 _)
    · exact pg_tup (pg_ints 1 _)
  · exact pg_tup (pg_ints 3 _)
  · exact pg_tup (pg_ints 3 _)
  · refine pg_tup fun d hd => ?_
    obtain ⟨f, hf, rfl⟩ := List.mem_map.mp hd
    refine pg_tup fun d hd => ?_
    simp only [List.mem_cons, List.not_mem_nil, or_false] at hd
    rcases hd with rfl | rfl
    · exact pg_str _ (hp.ob1 f hf).so
    · exact pg_tup (pg_ints 1 _)
theorem pg_L {p : Pic} (hp : PicOk p) : Pg 5 (.lst (lsL p)) := by
  refine pg_lst fun d hd => ?_
  simp only [lsL, List.mem_cons, List.not_mem_nil, or_false] at hd
  rcases hd with rfl | rfl | rfl | rfl | rfl
  · exact pg_lst (pg_ints 3 _)
  · refine pg_lst fun d hd => ?_
    obtain ⟨f, hf, rfl⟩ := List.mem_map.mp hd
    refine pg_lst fun d hd => ?_
    simp only [List.mem_cons, List.not_mem_nil, or_false] at hd
    rcases hd with rfl | rfl | rfl | rfl
    · exact pg_str _ (hp.fr1 f hf).so
    · exact pg_int _ _
    · exact pg_lst (pg_ints 1 _)
    · exact pg_lst (pg_ints 1 _)
  · exact pg_lst (pg_ints 3 _)
  · exact pg_lst (pg_ints 3 _)
  · refine pg_lst fun d hd => ?_
    obtain ⟨f, hf, rfl⟩ := List.mem_map.mp hd
    refine pg_lst fun d hd => ?_
    simp only [List.mem_cons, List.not_mem_nil, or_false] at hd
    rcases hd with rfl | rfl
    · exact pg_str _ (hp.ob1 f hf).so
    · exact pg_lst (pg_ints 1 _)
theorem pg_shaped {n : Nat} {d : D} (h : Pg n d) (hn : n ≤ 64) : pyOk d = true ∧ SeqAt.shaped (py d) = true := ⟨h.1, Bool.and_eq_true_iff.mpr ⟨h.2.1, decide_eq_true (Nat.le_trans h.2.2 hn)⟩⟩
theorem eq_D {p q : Pic} (hp : PicOk p) (hq : PicOk q) : eqD (pD p) (pD q) = some (PyData.eqv (py (pD p)) (py (pD q))) := by
  obtain ⟨a1, a2⟩ := pg_shaped (pg_D hp) (by decide)
  obtain ⟨b1, b2⟩ := pg_shaped (pg_D hq) (by decide)
  show (if pyOk (pD p) && pyOk (pD q) && SeqAt.shaped (py (pD p)) && SeqAt.shaped (py (pD q)) then some (PyData.eqv (py (pD p)) (py (pD q))) else none) = _
  rw [if_pos (by rw [a1, a2, b1, b2]; rfl)]
theorem eq_D_refl {p : Pic} (hp : PicOk p) : eqD (pD p) (pD p) = some true := by
  obtain ⟨h1, h2, h3⟩ := pg_D hp
  exact eqD_same h1 h2 (by omega)
theorem eq_L_refl {p : Pic} (hp : PicOk p) : eqD (.lst (lsL p)) (.lst (lsL p)) = some true := by
  obtain ⟨h1, h2, h3⟩ := pg_L hp
  exact eqD_same h1 h2 (by omega)
/-! what is handed over -/
theorem snap_num {T : Tb} {a : Nat} {ns : List Int} (h : T[a]? = some (numM ns)) (i : Nat) : snapN T (i + 1) (.ob a) = some (.lst (ns.map D.int)) := by
  rw [snap_ob h]
  have : ∀ ns : List Int, mapO (snapN T i) (iH ns) = some (ns.map D.int) := by
    intro ns
    induction ns with
    | nil => rfl
    | cons n ns ih => simp only [iH, List.map_cons] at *; rw [mapO_cons, ih]; simp
  show Option.map _ _ = _
  rw [this]
  rfl
theorem FrX.snap {G : Gm} {T : Tb} {y : HV} {f : Fr} (h : FrX G T y f) (i : Nat) : snapN T (i + 2) y = some (frLD f) := by
  obtain ⟨j, a, b, rfl, _, h6, h7, h8⟩ := h
  rw [snap_ob h6]
  have e1 := snap_num h7 i
  have e2 := snap_num h8 i
  simp [e1, e2, frLD]
theorem ObX.snap {G : Gm} {T : Tb} {y : HV} {o : Ob} (h : ObX G T y o) (i : Nat) : snapN T (i + 2) y = some (obLD o) := by
  obtain ⟨j, a, rfl, _, h5, h6⟩ := h
  rw [snap_ob h5]
  have e1 := snap_num h6 i
  simp [e1, obLD]
theorem fz_num {T : Tb} {a : Nat} {ns : List Int} (h : T[a]? = some (numM ns)) (hl : ns.length ≤ lim) : Fz T (.ob a) (iT ns) := by
  refine fz_of (t := .T) (t' := .B) (d := .lst (ns.map D.int)) ?_ rfl rfl ?_ ?_
  · show (snapN T 9 (.ob a)).map _ = _
    rw [snap_num h 8]
    rfl
  · rw [okF, okF_ints]
    simp [hl]
  · rw [frzD, frz_ints]
theorem fz_frs {G : Gm} {T : Tb} {n : Nat} {ys : List HV} {fs : List Fr} (hn : T[n]? = some (some (.lst ys))) (h : Its (FrX G T) ys fs) (ho : ∀ f ∈ fs, FrOk f) (hl : fs.length ≤ lim) : Fz T (.ob n) (.tup (fs.map frD)) := by
  have e := h.snap (g := frLD) (sn := snapN T 8) fun y f hy => hy.snap 6
  refine fz_of (t := .T) (t' := .B) (d := .lst (fs.map frLD)) ?_ rfl rfl ?_ ?_
  · rw [tdX_ob hn]
    simp [e]
  · rw [okF, okFs_map _ _ _ fun f hf => (okF_fr (ho f hf)).1]
    simp [hl]
  · rw [frzD, frz_map fs fun f => (frz_fr f).1]
theorem fz_obs {G : Gm} {T : Tb} {n : Nat} {ys : List HV} {fs : List Ob} (hn : T[n]? = some (some (.lst ys))) (h : Its (ObX G T) ys fs) (ho : ∀ f ∈ fs, ObOk f) (hl : fs.length ≤ lim) : Fz T (.ob n) (.tup (fs.map obD)) := by
  have e := h.snap (g := obLD) (sn := snapN T 8) fun y f hy => hy.snap 6
  refine fz_of (t := .T) (t' := .B) (d := .lst (fs.map obLD)) ?_ rfl rfl ?_ ?_
  · rw [tdX_ob hn]
    simp [e]
  · rw [okF, okFs_map _ _ _ fun f hf => (okF_ob (ho f hf)).1]
    simp [hl]
  · rw [frzD, frz_map fs fun f => (frz_ob f).1]
theorem Lsd.td {G : Gm} {T : Tb} {o : Nat} {p : Pic} (h : Lsd G T o p) : tdX T (.ob o) = some (.T, .lst (lsL p)) := by
  obtain ⟨a, b, c, d, e, ys, os, h1, _, _, _, _, _, g1, g2, hys, g3, g4, g5, hos⟩ := h
  rw [tdX_ob h1]
  have e1 := snap_num g1 7
  have e3 := snap_num g3 7
  have e4 := snap_num g4 7
  have q1 := hys.snap (g := frLD) (sn := snapN T 7) fun y f hy => hy.snap 5
  have q2 := hos.snap (g := obLD) (sn := snapN T 7) fun y f hy => hy.snap 5
  have e2 : snapN T 8 (.ob b) = some (.lst (p.fr.map frLD)) := by rw [snap_ob g2, snapM_lst, q1]; rfl
  have e5 : snapN T 8 (.ob e) = some (.lst (p.ob.map obLD)) := by rw [snap_ob g5, snapM_lst, q2]; rfl
  simp [e1, e2, e3, e4, e5, lsL]
theorem Ty.newPic {G : Gm} {B : Nat} {T T' : Tb} (h : Ty G B T) (e : Ext T T') {p : Pic} (hp : T'[T.length]? = some (some (picM p))) : Ty (gUp G T.length (.pic p)) B T' := fun i => by
  by_cases q : i = T.length
  · subst q
    rw [gUp_at]
    exact hp
  · have : gUp G T.length (.pic p) i = G i := if_neg q
    rw [this]
    exact (h i).mono (fun M' z => e.get z) (Nat.le_refl _) (h.le (Nat.le_refl _) _)
end Lw
namespace Lw
open PySem L2 Vf
abbrev evL (ns : List Int) (p : Pic) (o n1 n2 : Nat) (s6 s7 s8 s9 s10 s11 : Sl) (T : Tb) : Ev := ⟨[.val .N (.scr (ns.map D.int)), .val .N (.lst (lsL p)), .val .N (.tup (pL p)), .han o, .han n1, .han n2, s6, s7, s8, s9, s10, s11], T⟩
theorem num_ne {G : Gm} {i j : Nat} {K K' : Kd} (h1 : G i = K) (h2 : G j = K') (h : K ≠ K') : i ≠ j := fun e => h (by rw [← h1, ← h2, e])
section
variable {ns : List Int} {p q : Pic} {o n1 n2 n3 : Nat} {s6 s7 s8 s9 s10 s11 : Sl} {T : Tb} {G : Gm} {B : Nat}
theorem body_fr (hT : Ty G B T) (hB : B ≤ 100000) {j : Nat} (hj : G j = .frm) : Ok (B_law_1 (evL ns p o n1 n2 (.han j) s7 s8 s9 s10 s11 T)) fun r => ∃ T', r = .nx (evL ns p o n1 n2 (.han j) s7 s8 s9 s10 s11 T') ∧ Ty G (B + 2) T' ∧ ∀ i, G i ≠ .num → T'[i]? = T[i]? := by
  obtain ⟨z, n, a, b, f1, f2, f3, _⟩ := hT.frm hj
  obtain ⟨xs, g1, g2⟩ := hT.num f2
  have q := ixF f1
  have hxl : xs.length ≤ lim := by unfold lim; omega
  have t2 := hT.setNum f2 (B' := B + 1) (ns := xs ++ [11]) (by omega) (by simp; omega)
  have h2 : ∀ i, G i ≠ .num → (T.set a (numM (xs ++ [11])))[i]? = T[i]? := fun i hi => List.getElem?_set_ne fun e => hi (by rw [← e]; exact f2)
  have e2 : (some (Mob.lst (iH xs ++ [HV.pu (.int 11)])) : Option Mob) = numM (xs ++ [11]) := by rw [iH_app]
  unfold B_law_1
  refine seq_step (P := fun r => r = .nx (evL ns p o n1 n2 (.han j) s7 s8 s9 s10 s11 (T.set a (numM (xs ++ [11]))))) ?_ ?_
  · simp only [← e2]
    simp [q, isLst_ob g1, lmK_ob g1, hxl]
  rintro r rfl
  refine ⟨_, rfl, ?_⟩
  generalize T.set a (numM (xs ++ [11])) = T2 at *
  obtain ⟨z, n, a, b, f1, f2, f3, _⟩ := t2.frm hj
  obtain ⟨xs, g1, g2⟩ := t2.num f3
  have q := ixF f1
  have hxl : xs.length ≤ lim := by unfold lim; omega
  have t3 := t2.setNum f3 (B' := B + 2) (ns := xs ++ [13]) (by omega) (by simp; omega)
  have h3 : ∀ i, G i ≠ .num → (T2.set b (numM (xs ++ [13])))[i]? = T2[i]? := fun i hi => List.getElem?_set_ne fun e => hi (by rw [← e]; exact f3)
  have e3 : (some (Mob.lst (iH xs ++ [HV.pu (.int 13)])) : Option Mob) = numM (xs ++ [13]) := by rw [iH_app]
  have key : Ok ((zDo (xLm mApp (xIx (xH (hVar 6)) (xE (sLit (.int 3)))) (xCons (xE (sLit (.int 13))) xNil))) (evL ns p o n1 n2 (.han j) s7 s8 s9 s10 s11 T2)) fun r => r = .nx (evL ns p o n1 n2 (.han j) s7 s8 s9 s10 s11 (T2.set b (numM (xs ++ [13])))) := by
    simp only [← e3]
    simp [q, isLst_ob g1, lmK_ob g1, hxl]
  refine key.mono ?_
  rintro r rfl
  exact ⟨_, rfl, t3, fun i hi => by rw [h3 i hi, h2 i hi]⟩
theorem body_ob (hT : Ty G B T) (hB : B ≤ 100000) {j : Nat} (hj : G j = .ob) : Ok (B_law_2 (evL ns p o n1 n2 s6 (.han j) s8 s9 s10 s11 T)) fun r => ∃ T', r = .nx (evL ns p o n1 n2 s6 (.han j) s8 s9 s10 s11 T') ∧ Ty G (B + 1) T' ∧ ∀ i, G i ≠ .num → T'[i]? = T[i]? := by
  obtain ⟨z, a, f1, f2, _⟩ := hT.ob hj
  obtain ⟨xs, g1, g2⟩ := hT.num f2
  have q := ixO f1
  have hxl : xs.length ≤ lim := by unfold lim; omega
  have t2 := hT.setNum f2 (B' := B + 1) (ns := xs ++ [15]) (by omega) (by simp; omega)
  have h2 : ∀ i, G i ≠ .num → (T.set a (numM (xs ++ [15])))[i]? = T[i]? := fun i hi => List.getElem?_set_ne fun e => hi (by rw [← e]; exact f2)
  have e2 : (some (Mob.lst (iH xs ++ [HV.pu (.int 15)])) : Option Mob) = numM (xs ++ [15]) := by rw [iH_app]
  unfold B_law_2
  have key : Ok ((zDo (xLm mApp (xIx (xH (hVar 7)) (xE (sLit (.int 1)))) (xCons (xE (sLit (.int 15))) xNil))) (evL ns p o n1 n2 s6 (.han j) s8 s9 s10 s11 T)) fun r => r = .nx (evL ns p o n1 n2 s6 (.han j) s8 s9 s10 s11 (T.set a (numM (xs ++ [15])))) := by
    simp only [← e2]
    simp [q, isLst_ob g1, lmK_ob g1, hxl]
  refine key.mono ?_
  rintro r rfl
  exact ⟨_, rfl, t2, h2⟩
/-- the changes of what was handed over -/
theorem given_changed (hT : Ty G 3000 T) (ho : G o = .top) (h1 : G n1 = .pic p) (h2 : G n2 = .pic p) {A : SX} {Q : OutX → Prop} (hA : ∀ s6 s7 T', T'[n1]? = some (some (picM p)) → T'[n2]? = some (some (picM p)) → Ok (A (evL ns p o n1 n2 s6 s7 .un .un .un .un T')) Q) :
    Ok ((zSeq (zDo (xLm mApp (xIx (xH (hVar 3)) (xE (sLit (.int 0)))) (xCons (xE (sLit (.int 9))) xNil))) (zSeq (zDo (xLm mApp (xIx (xH (hVar 3)) (xE (sLit (.int 2)))) (xCons (xE (sLit (.int 2))) xNil))) (zSeq (zForH (xIx (xH (hVar 3)) (xE (sLit (.int 1)))) (setHS 6)
  B_law_1) (zSeq (zForH (xIx (xH (hVar 3)) (xE (sLit (.int 4)))) (setHS 7)
  B_law_2) (zSeq (zDo (xLm mApp (xIx (xH (hVar 3)) (xE (sLit (.int 1)))) (xCons (xE (sL (sLd (sCons (sLit (.str "main")) (sCons (sLit (.int 3)) (sCons (sL (sLd (sCons (sLit (.int 1)) sNil))) (sCons (sL (sLd (sCons (sLit (.int 3)) sNil))) sNil))))))) xNil))) (zSeq (zDo (xLm mApp (xIx (xH (hVar 3)) (xE (sLit (.int 4)))) (xCons (xE (sL (sLd (sCons (sLit (.str "node")) (sCons (sL (sLd (sCons (sLit (.int 5)) sNil))) sNil))))) xNil))) (zSeq (zDo (xLm mApp (xIx (xH (hVar 3)) (xE (sLit (.int 3)))) (xCons (xE (sLit (.int 2))) xNil))) A))))))) (evL ns p o n1 n2 .un .un .un .un .un .un T)) Q := by
  obtain ⟨a, b, c, d, e, k1, ka, kb, kc, kd, ke⟩ := hT.top ho
  have ll : 4 ≤ lim ∧ 2 ≤ lim ∧ 1 ≤ lim := by decide
  -- statics
  obtain ⟨xs, g1, g2⟩ := hT.num ka
  have q := ix0 k1
  have hxl : xs.length ≤ lim := by unfold lim; omega
  have t2 := hT.setNum ka (B' := 3001) (ns := xs ++ [9]) (by omega) (by simp; omega)
  have f2 : ∀ i, G i ≠ .num → (T.set a (numM (xs ++ [9])))[i]? = T[i]? := fun i hi => List.getElem?_set_ne fun e => hi (by rw [← e]; exact ka)
  have e2 : (some (Mob.lst (iH xs ++ [HV.pu (.int 9)])) : Option Mob) = numM (xs ++ [9]) := by rw [iH_app]
  refine seq_step (P := fun r => r = .nx (evL ns p o n1 n2 .un .un .un .un .un .un (T.set a (numM (xs ++ [9]))))) ?_ ?_
  · simp only [← e2]
    simp [q, isLst_ob g1, lmK_ob g1, hxl]
  rintro r rfl
  refine ⟨_, rfl, ?_⟩
  generalize T.set a (numM (xs ++ [9])) = T2 at *
  clear q g1 g2 hxl e2 xs
  have no : G o ≠ .num := by rw [ho]; exact fun z => nomatch z
  have nb : G b ≠ .num := by rw [kb]; exact fun z => nomatch z
  have ne : G e ≠ .num := by rw [ke]; exact fun z => nomatch z
  have nn1 : G n1 ≠ .num := by rw [h1]; exact fun z => nomatch z
  have nn2 : G n2 ≠ .num := by rw [h2]; exact fun z => nomatch z
  have k2 : T2[o]? = some (topM a b c d e) := by rw [f2 o no]; exact k1
  -- watched
  obtain ⟨xs, g1, g2⟩ := t2.num kc
  have q := ix0 k2
  have hxl : xs.length ≤ lim := by unfold lim; omega
  have t3 := t2.setNum kc (B' := 3002) (ns := xs ++ [2]) (by omega) (by simp; omega)
  have f3 : ∀ i, G i ≠ .num → (T2.set c (numM (xs ++ [2])))[i]? = T2[i]? := fun i hi => List.getElem?_set_ne fun e => hi (by rw [← e]; exact kc)
  have e3 : (some (Mob.lst (iH xs ++ [HV.pu (.int 2)])) : Option Mob) = numM (xs ++ [2]) := by rw [iH_app]
  refine seq_step (P := fun r => r = .nx (evL ns p o n1 n2 .un .un .un .un .un .un (T2.set c (numM (xs ++ [2]))))) ?_ ?_
  · simp only [← e3]
    simp [q, isLst_ob g1, lmK_ob g1, hxl]
  rintro r rfl
  refine ⟨_, rfl, ?_⟩
  generalize T2.set c (numM (xs ++ [2])) = T3 at *
  clear q g1 g2 hxl e3 xs
  have k3 : T3[o]? = some (topM a b c d e) := by rw [f3 o no]; exact k2
  -- frames
  obtain ⟨ys, y1, y2, y3⟩ := t3.frms kb
  have q := ix0 k3
  refine seq_step (P := fun r => ∃ s6 T4, r = .nx (evL ns p o n1 n2 s6 .un .un .un .un .un T4) ∧ Ty G 9100 T4 ∧ ∀ i, G i ≠ .num → T4[i]? = T3[i]?) ?_ ?_
  · rw [zForH_eq]
    simp [q, srcM_ob y1]
    refine forH_ok (fun k env => ∃ s6 T4, env = evL ns p o n1 n2 s6 .un .un .un .un .un T4 ∧ k ≤ ys.length ∧ Ty G (3002 + 2 * k) T4 ∧ ∀ i, G i ≠ .num → T4[i]? = T3[i]?) ⟨_, _, rfl, Nat.zero_le _, t3, fun _ _ => rfl⟩ ?_ ?_ ?_
    · rintro k env ⟨s6, T4, rfl, _, _, hf⟩
      exact srcM_ob (by rw [hf b nb]; exact y1)
    · rintro k y env hk ⟨s6, T4, rfl, hkl, ht, hf⟩
      have hym := List.mem_of_getElem? hk
      have hk9 := (List.getElem?_eq_some_iff.mp hk).1
      obtain ⟨j, rfl, hj⟩ := y3 y hym
      refine ⟨evL ns p o n1 n2 (.han j) .un .un .un .un .un T4, by simp, (body_fr ht (by omega) hj).mono ?_⟩
      rintro r ⟨T5, rfl, z1, z2⟩
      exact ⟨_, _, rfl, by omega, z1, fun i hi => by rw [z2 i hi, hf i hi]⟩
    · rintro env ⟨s6, T4, rfl, _, ht, hf⟩
      exact ⟨s6, T4, rfl, ht.up (by omega), hf⟩
  rintro r ⟨s6, T4, rfl, t4, f4⟩
  refine ⟨_, rfl, ?_⟩
  have k4 : T4[o]? = some (topM a b c d e) := by rw [f4 o no]; exact k3
  clear q y1 y2 y3
  clear ys
  -- things
  obtain ⟨zs, y1, y2, y3⟩ := t4.obs ke
  have q := ix0 k4
  refine seq_step (P := fun r => ∃ s7 T5, r = .nx (evL ns p o n1 n2 s6 s7 .un .un .un .un T5) ∧ Ty G 20000 T5 ∧ ∀ i, G i ≠ .num → T5[i]? = T4[i]?) ?_ ?_
  · rw [zForH_eq]
    simp [q, srcM_ob y1]
    refine forH_ok (fun k env => ∃ s7 T5, env = evL ns p o n1 n2 s6 s7 .un .un .un .un T5 ∧ k ≤ zs.length ∧ Ty G (9100 + k) T5 ∧ ∀ i, G i ≠ .num → T5[i]? = T4[i]?) ⟨_, _, rfl, Nat.zero_le _, t4, fun _ _ => rfl⟩ ?_ ?_ ?_
    · rintro k env ⟨s7, T5, rfl, _, _, hf⟩
      exact srcM_ob (by rw [hf e ne]; exact y1)
    · rintro k y env hk ⟨s7, T5, rfl, hkl, ht, hf⟩
      have hym := List.mem_of_getElem? hk
      have hk9 := (List.getElem?_eq_some_iff.mp hk).1
      obtain ⟨j, rfl, hj⟩ := y3 y hym
      refine ⟨evL ns p o n1 n2 s6 (.han j) .un .un .un .un T5, by simp, (body_ob ht (by omega) hj).mono ?_⟩
      rintro r ⟨T6, rfl, z1, z2⟩
      exact ⟨_, _, rfl, by omega, z1, fun i hi => by rw [z2 i hi, hf i hi]⟩
    · rintro env ⟨s7, T5, rfl, _, ht, hf⟩
      exact ⟨s7, T5, rfl, ht.up (by omega), hf⟩
  rintro r ⟨s7, T5, rfl, t5, f5⟩
  refine ⟨_, rfl, ?_⟩
  have k5 : T5[o]? = some (topM a b c d e) := by rw [f5 o no]; exact k4
  clear q y1 y2 y3
  clear zs
  -- the last three
  obtain ⟨ys, y1, y2, y3⟩ := t5.frms kb
  obtain ⟨zs, w1, w2, w3⟩ := t5.obs ke
  obtain ⟨xs, x1, x2⟩ := t5.num kd
  have p1 := t5.pic h1
  have p2 := t5.pic h2
  have ob : o ≠ b := num_ne ho kb (fun z => nomatch z)
  have oe : o ≠ e := num_ne ho ke (fun z => nomatch z)
  have eb : e ≠ b := num_ne ke kb (fun z => nomatch z)
  have db : d ≠ b := num_ne kd kb (fun z => nomatch z)
  have de : d ≠ e := num_ne kd ke (fun z => nomatch z)
  have a1 : n1 ≠ b := num_ne h1 kb (fun z => nomatch z)
  have a2 : n1 ≠ e := num_ne h1 ke (fun z => nomatch z)
  have a3 : n1 ≠ d := num_ne h1 kd (fun z => nomatch z)
  have b1 : n2 ≠ b := num_ne h2 kb (fun z => nomatch z)
  have b2 : n2 ≠ e := num_ne h2 ke (fun z => nomatch z)
  have b3 : n2 ≠ d := num_ne h2 kd (fun z => nomatch z)
  have hyl : ys.length ≤ lim := by unfold lim; omega
  have hzl : zs.length ≤ lim := by unfold lim; omega
  have hxl : xs.length ≤ lim := by unfold lim; omega
  refine seq_step (P := fun r => ∃ M, r = .nx (evL ns p o n1 n2 s6 s7 .un .un .un .un (T5.set b M))) ?_ ?_
  · have q := ix0 k5
    simp [q, isLst_ob y1, lmK_ob y1, hyl, ll]
    exact ⟨_, rfl⟩
  rintro r ⟨M1, rfl⟩
  refine ⟨_, rfl, ?_⟩
  have k6 : (T5.set b M1)[o]? = some (topM a b c d e) := by rw [List.getElem?_set_ne (Ne.symm ob)]; exact k5
  have w6 : (T5.set b M1)[e]? = some (lstM zs) := by rw [List.getElem?_set_ne (Ne.symm eb)]; exact w1
  have x6 : (T5.set b M1)[d]? = some (numM xs) := by rw [List.getElem?_set_ne (Ne.symm db)]; exact x1
  have p16 : (T5.set b M1)[n1]? = some (some (picM p)) := by rw [List.getElem?_set_ne (Ne.symm a1)]; exact p1
  have p26 : (T5.set b M1)[n2]? = some (some (picM p)) := by rw [List.getElem?_set_ne (Ne.symm b1)]; exact p2
  generalize T5.set b M1 = T6 at *
  refine seq_step (P := fun r => ∃ M, r = .nx (evL ns p o n1 n2 s6 s7 .un .un .un .un (T6.set e M))) ?_ ?_
  · have q := ix0 k6
    simp [q, isLst_ob w6, lmK_ob w6, hzl, ll]
    exact ⟨_, rfl⟩
  rintro r ⟨M2, rfl⟩
  refine ⟨_, rfl, ?_⟩
  have k7 : (T6.set e M2)[o]? = some (topM a b c d e) := by rw [List.getElem?_set_ne (Ne.symm oe)]; exact k6
  have x7 : (T6.set e M2)[d]? = some (numM xs) := by rw [List.getElem?_set_ne (Ne.symm de)]; exact x6
  have p17 : (T6.set e M2)[n1]? = some (some (picM p)) := by rw [List.getElem?_set_ne (Ne.symm a2)]; exact p16
  have p27 : (T6.set e M2)[n2]? = some (some (picM p)) := by rw [List.getElem?_set_ne (Ne.symm b2)]; exact p26
  generalize T6.set e M2 = T7 at *
  refine seq_step (P := fun r => ∃ M, r = .nx (evL ns p o n1 n2 s6 s7 .un .un .un .un (T7.set d M))) ?_ ?_
  · have q := ix0 k7
    simp [q, isLst_ob x7, lmK_ob x7, hxl]
    exact ⟨_, rfl⟩
  rintro r ⟨M3, rfl⟩
  refine ⟨_, rfl, ?_⟩
  exact hA s6 s7 _ (by rw [List.getElem?_set_ne (Ne.symm a3)]; exact p17) (by rw [List.getElem?_set_ne (Ne.symm b3)]; exact p27)
end
theorem perm5 (a b c d e : HV) : permH [4, 3, 2, 1, 0] [e, d, c, b, a] = [a, b, c, d, e] := rfl
def gPic (n1 n2 : Nat) (p : Pic) : Gm := fun j => if j = n1 ∨ j = n2 then .pic p else .no
theorem ty_pics {T : Tb} {n1 n2 : Nat} {p : Pic} (h1 : T[n1]? = some (some (picM p))) (h2 : T[n2]? = some (some (picM p))) (B : Nat) : Ty (gPic n1 n2 p) B T := fun i => by
  unfold gPic
  by_cases h : i = n1 ∨ i = n2
  · rw [if_pos h]
    rcases h with rfl | rfl
    · exact h1
    · exact h2
  · rw [if_neg h]
    trivial
theorem law_true : ∀ ns, LawOk ns → Ok (g_law [scrX ns] []) fun r => ∃ T, r = .val (.pu (.bl true)) T := by
  intro ns hn
  obtain ⟨r, hparts, p, rfl, hps⟩ := law_parts_at hn
  have hp := hps.ok
  have hfz := law_frozen_at hps
  obtain ⟨r, hl, o, T1, G1, rfl, _, _, t1, k1, lsd⟩ := law_listed_at hps (G := fun _ => .no) (B := 3000) (T := []) (fun i => trivial) (by omega)
  have htd := lsd.td
  have hst : p.st.length ≤ lim := by have := hp.st2; unfold lim; omega
  have hfr : p.fr.length ≤ lim := by have := hp.fr2; unfold lim; omega
  have hwa : p.wa.length ≤ lim := by have := hp.wa2; unfold lim; omega
  have hpa : p.pa.length ≤ lim := by have := hp.pa2; unfold lim; omega
  have hob : p.ob.length ≤ lim := by have := hp.ob2; unfold lim; omega
  obtain ⟨c24, hc24⟩ := cell_at hn .N (i := 24) (by omega) (by omega)
  obtain ⟨rw, hdg, hrow⟩ := row_at0 c24 [24, 93, 8, 137438953472, 97] (by decide) (by decide)
  simp only [List.map_cons, List.map_nil] at hdg
  have l5 : 5 ≤ lim ∧ 4 ≤ lim := by decide
  unfold g_law scrX
  rw [gFX_at (by rfl), Ok_bind]
  unfold F_law
  refine seq_step (P := fun r => r = .nx ⟨[.val .N (.scr (ns.map D.int)), .val .N (.lst (lsL p)), .un, .un, .un, .un, .un, .un, .un, .un, .un, .un], []⟩) ?_ ?_
  · simp [hparts]
  rintro r rfl
  refine ⟨_, rfl, ?_⟩
  refine seq_step (P := fun r => r = .nx ⟨[.val .N (.scr (ns.map D.int)), .val .N (.lst (lsL p)), .val .N (.tup (pL p)), .un, .un, .un, .un, .un, .un, .un, .un, .un], []⟩) ?_ ?_
  · simp [hfz, pD]
  rintro r rfl
  refine ⟨_, rfl, ?_⟩
  refine seq_step (P := fun r => r = .nx ⟨[.val .N (.scr (ns.map D.int)), .val .N (.lst (lsL p)), .val .N (.tup (pL p)), .han o, .un, .un, .un, .un, .un, .un, .un, .un], T1⟩) ?_ ?_
  · simp [hl]
  rintro r rfl
  refine ⟨_, rfl, ?_⟩
  -- one
  obtain ⟨a, b, c, d, e, ys, os, q0, _, _, _, _, _, q1, q2, hys, q3, q4, q5, hos⟩ := lsd
  have z1 : Fz T1 (.ob a) (iT p.st) := fz_num q1 hst
  have z2 : Fz T1 (.ob b) (.tup (p.fr.map frD)) := fz_frs q2 hys hp.fr1 hfr
  have z3 : Fz T1 (.ob c) (iT p.wa) := fz_num q3 hwa
  have z4 : Fz T1 (.ob d) (iT p.pa) := fz_num q4 hpa
  have z5 : Fz T1 (.ob e) (.tup (p.ob.map obD)) := fz_obs q5 hos hp.ob1 hob
  obtain ⟨T2, m1, x2, p1⟩ := make_at z1 z2 z3 z4 z5
  have iq := ix0 q0
  refine seq_step (P := fun r => r = .nx ⟨[.val .N (.scr (ns.map D.int)), .val .N (.lst (lsL p)), .val .N (.tup (pL p)), .han o, .han T1.length, .un, .un, .un, .un, .un, .un, .un], T2⟩) ?_ ?_
  · simp [iq, m1, -mkX_eq]
  rintro r rfl
  refine ⟨_, rfl, ?_⟩
  have t2 := t1.newPic x2 p1
  have k2 := (t1.le (Nat.le_refl _) (.pic p)).top k1
  have g1 : gUp G1 T1.length (.pic p) T1.length = .pic p := gUp_at
  have htd2 := tdX_ext x2 htd
  generalize gUp G1 T1.length (.pic p) = G2 at *
  generalize T1.length = n1 at *
  clear m1 z1 z2 z3 z4 z5 iq hys hos q0 q1 q2 q3 q4 q5 t1 k1 htd x2 hl
  -- two
  have y1 : Fz T2 (.pu (iT p.st)) (iT p.st) := fz_iT hst
  have y2 : Fz T2 (.pu (.tup (p.fr.map frD))) (.tup (p.fr.map frD)) := fz_frT hp.fr1 hfr
  have y3 : Fz T2 (.pu (iT p.wa)) (iT p.wa) := fz_iT hwa
  have y4 : Fz T2 (.pu (iT p.pa)) (iT p.pa) := fz_iT hpa
  have y5 : Fz T2 (.pu (.tup (p.ob.map obD))) (.tup (p.ob.map obD)) := fz_obT hp.ob1 hob
  obtain ⟨T3, m2, x3, p2⟩ := make_at y1 y2 y3 y4 y5
  refine seq_step (P := fun r => r = .nx (evL ns p o n1 T2.length .un .un .un .un .un .un T3)) ?_ ?_
  · simp [perm5, m2, -mkX_eq]
  rintro r rfl
  refine ⟨_, rfl, ?_⟩
  have t3 := t2.newPic x3 p2
  have k3 := (t2.le (Nat.le_refl _) (.pic p)).top k2
  have g2 := (t2.le (Nat.le_refl _) (.pic p)).pic g1
  have g3 : gUp G2 T2.length (.pic p) T2.length = .pic p := gUp_at
  have htd3 := tdX_ext x3 htd2
  have p13 := x3.get p1
  generalize gUp G2 T2.length (.pic p) = G3 at *
  generalize T2.length = n2 at *
  clear m2 y1 y2 y3 y4 y5 t2 k2 g1 htd2 x3 p1
  -- both shown
  have eL := eq_L_refl hp
  have sh1 := shows_at hp p13
  have sh2 := shows_at hp p2
  simp only [pD] at sh1 sh2
  refine seq_step (P := fun r => r = .nx (evL ns p o n1 n2 .un .un .un .un .un .un T3)) ?_ ?_
  · simp [sh1, sh2, htd3, eL]
  rintro r rfl
  refine ⟨_, rfl, ?_⟩
  clear eL sh1 sh2 htd3
  refine given_changed t3 k3 g2 g3 fun s6 s7 T4 p14 p24 => ?_
  clear t3 k3 g2 g3 p13 p2
  -- again
  have sh1 := shows_at hp p14
  have er := eq_D_refl hp
  have q12 := eqo_at p14 p24 er
  have q21 := eqo_at p24 p14 er
  simp only [pD] at sh1
  refine seq_step (P := fun r => r = .nx (evL ns p o n1 n2 s6 s7 .un .un .un .un T4)) ?_ ?_
  · simp [sh1, q12, q21]
  rintro r rfl
  refine ⟨_, rfl, ?_⟩
  clear sh1 q12 q21
  -- another
  have t4 := ty_pics p14 p24 4000
  obtain ⟨r, hch, o5, T5, G5, rfl, l5', t5, k5⟩ := law_changed_at hps t4 hrow
  obtain ⟨q, hq⟩ := t5.wo (by omega) k5
  have hqo := hq.ok
  obtain ⟨r, hfx, T6, rfl, x6⟩ := law_frozenX_at hq
  refine seq_step (P := fun r => r = .nx (evL ns p o n1 n2 s6 s7 (.val .N (.tup (pL q))) .un .un .un T6)) ?_ ?_
  · simp [hc24, hdg, hch, hfx, l5]
    simp [pD]
  rintro r rfl
  refine ⟨_, rfl, ?_⟩
  have p15 : T5[n1]? = some (some (picM p)) := t5.pic (l5'.pic (by unfold gPic; simp))
  have p25 : T5[n2]? = some (some (picM p)) := t5.pic (l5'.pic (by unfold gPic; simp))
  have p16 := x6.get p15
  have p26 := x6.get p25
  clear hch hfx t4 t5 k5 l5' hq x6 p15 p25 p14 p24 G5
  clear T5
  -- three
  have y1 : Fz T6 (.pu (iT q.st)) (iT q.st) := fz_iT (by have := hqo.st2; unfold lim; omega)
  have y2 : Fz T6 (.pu (.tup (q.fr.map frD))) (.tup (q.fr.map frD)) := fz_frT hqo.fr1 (by have := hqo.fr2; unfold lim; omega)
  have y3 : Fz T6 (.pu (iT q.wa)) (iT q.wa) := fz_iT (by have := hqo.wa2; unfold lim; omega)
  have y4 : Fz T6 (.pu (iT q.pa)) (iT q.pa) := fz_iT (by have := hqo.pa2; unfold lim; omega)
  have y5 : Fz T6 (.pu (.tup (q.ob.map obD))) (.tup (q.ob.map obD)) := fz_obT hqo.ob1 (by have := hqo.ob2; unfold lim; omega)
  obtain ⟨T7, m3, x7, p3⟩ := make_at y1 y2 y3 y4 y5
  refine seq_step (P := fun r => r = .nx (evL ns p o n1 n2 s6 s7 (.val .N (.tup (pL q))) (.han T6.length) .un .un T7)) ?_ ?_
  · simp [m3, -mkX_eq]
  rintro r rfl
  refine ⟨_, rfl, ?_⟩
  have p17 := x7.get p16
  have p27 := x7.get p26
  generalize T6.length = n3 at *
  clear m3 y1 y2 y3 y4 y5 x7 p16 p26
  -- the same or not
  have eqp := eq_D hqo hp
  have epq : eqD (pD p) (pD q) = some (PyData.eqv (py (pD q)) (py (pD p))) := by rw [eq_D hp hqo, PySem.W.eqv_comm]
  generalize PyData.eqv (py (pD q)) (py (pD p)) = k at *
  have eqp' := eqp
  simp only [pD] at eqp'
  refine seq_step (P := fun r => r = .nx (evL ns p o n1 n2 s6 s7 (.val .N (.tup (pL q))) (.han n3) (.val .N (.bl k)) .un T7)) ?_ ?_
  · simp [eqp']
  rintro r rfl
  refine ⟨_, rfl, ?_⟩
  have a13 := eqo_at p17 p3 epq
  have a31 := eqo_at p3 p17 eqp
  have a23 := eqo_at p27 p3 epq
  have a32 := eqo_at p3 p27 eqp
  refine seq_step (P := fun r => ∃ s11 T8, r = .nx (evL ns p o n1 n2 s6 s7 (.val .N (.tup (pL q))) (.han n3) (.val .N (.bl k)) s11 T8) ∧ Ext T7 T8) ?_ ?_
  · rw [zForH_eq]
    have g8 : (T7 ++ [lstM [HV.pu (.bl k), .pu (.bl k), .pu (.bl k), .pu (.bl k)]])[T7.length]? = some (lstM [HV.pu (.bl k), .pu (.bl k), .pu (.bl k), .pu (.bl k)]) := by simp
    have hs := srcM_ob g8
    have x8 : Ext T7 (T7 ++ [lstM [HV.pu (.bl k), .pu (.bl k), .pu (.bl k), .pu (.bl k)]]) := Ext.app _ _
    simp [a13, a31, a23, a32, lstK, l5]
    simp only [lstM] at hs g8 x8
    simp [hs]
    refine forH_ok (fun j env => ∃ s11, env = evL ns p o n1 n2 s6 s7 (.val .N (.tup (pL q))) (.han n3) (.val .N (.bl k)) s11 (T7 ++ [some (Mob.lst [HV.pu (.bl k), .pu (.bl k), .pu (.bl k), .pu (.bl k)])])) ⟨_, rfl⟩ ?_ ?_ ?_
    · rintro j env ⟨s11, rfl⟩
      exact hs
    · rintro j y env hj ⟨s11, rfl⟩
      have hy : y = .pu (.bl k) := by
        have := List.mem_of_getElem? hj
        simpa using this
      subst hy
      refine ⟨evL ns p o n1 n2 s6 s7 (.val .N (.tup (pL q))) (.han n3) (.val .N (.bl k)) (.val .N (.bl k)) (T7 ++ [some (Mob.lst [HV.pu (.bl k), .pu (.bl k), .pu (.bl k), .pu (.bl k)])]), by simp, ?_⟩
      simp [B_law_3]
    · rintro env ⟨s11, rfl⟩
      exact ⟨_, _, rfl, x8⟩
  rintro r ⟨s11, T8, rfl, x8⟩
  refine ⟨_, rfl, ?_⟩
  have sh3 := shows_at hqo (x8.get p3)
  have sh1 := shows_at hp (x8.get p17)
  have sh2 := shows_at hp (x8.get p27)
  have a11 := eqo_at (x8.get p17) (x8.get p17) er
  simp only [pD] at sh1 sh2 sh3
  simp [sh1, sh2, sh3, a11]
end Lw
namespace Lw
open PySem PyProof.Rows L2 Vf
def topS (i : Nat) : Stmt := PySem.Challenge.pw_quietbroom_k36_picture_fields.main.body.getD i (.Pass ⟨0, 0, 0, 0⟩)
structure Tx (K : PySem.W.Frag) (w : World) (mg : Str → Option Value) (cl : Str → Option Addr) : Prop where
  nil : True
  n_bool : mg "bool" = none
  n_int : mg "int" = none
  n_isinstance : mg "isinstance" = none
  n_len : mg "len" = none
  n_list : mg "list" = none
  n_range : mg "range" = none
  n_str : mg "str" = none
  n_tuple : mg "tuple" = none
  f_frames : FldOk K cl CS_frames "frames"
  f_objects : FldOk K cl CS_objects "objects"
  f_parted : FldOk K cl CS_parted "parted"
  f_statics : FldOk K cl CS_statics "statics"
  f_watched : FldOk K cl CS_watched "watched"
  i_Picture : IsC K mg cl "Picture"
section
variable {P : Program} {w : World} {K : PySem.W.Frag} {mg : Str → Option Value} {base : Heap} {cl : Str → Option Addr}
abbrev s_law_digits : Stmt := topS 9
theorem sc_law_digits : FnScope N_law_digits ["cell", "sizes"] (defScope s_law_digits) := ⟨rfl, rfl, rfl, by decide +kernel, rfl, by decide +kernel, by decide +kernel⟩
theorem ca_law_digits (T : Tx K w mg cl) {f : Addr} {fd : FuncData} (D : Df K mg "_law_digits" s_law_digits f fd) : Ca P w K mg base cl 1 "_law_digits" ["cell", "sizes"] g_law_digits :=
  ca_def D sc_law_digits len_law_digits okt_law_digits (D.fn.binds (fun _ _ _ _ _ _ us hl => match us, hl with | [_, _], _ => rfl)) (kb_of D.fn (fun _ _ _ _ _ _ us hl => match us, hl with | [_, _], _ => rfl)) (fun cdv A outer s H E hr hX =>
  (js_cons (js_own 2 hX (jl_d ja_nil)) (js_cons (js_set 3 hX (je_ty cr_int T.n_int (by decide +kernel) (ja_cons (je_var 0) ja_nil))) (js_cons (js_if (jt_cmp or_ge (je_var 3) (je_op or_pow je_int je_int))
  (js_cons (js_set 3 hX (je_op or_sub (je_var 3) (je_op or_pow je_int je_int))) (js_cons (js_for PassesOwn.never hX (ji_it (je_var 1)) (jg_name 4 hX)
  (js_cons (js_app 2 (je_op or_mod (je_ty cr_int T.n_int (by decide +kernel) (ja_cons (je_var 3) ja_nil)) (je_var 4))) (js_one (js_set 3 hX (je_op or_fd (je_ty cr_int T.n_int (by decide +kernel) (ja_cons (je_var 3) ja_nil)) (je_var 4)))))) (js_one (js_ret (je_var 2)))))
  js_nil) (js_cons (js_set 5 hX (je_op or_mod (je_ty cr_int T.n_int (by decide +kernel) (ja_cons (je_var 3) ja_nil)) je_int)) (js_cons (js_for PassesOwn.never hX (ji_range1 gwf_s T.n_range (ja_cons (je_b cr_len T.n_len PySem.boot_len (ja_cons (je_var 1) ja_nil)) ja_nil)) (jg_name 6 hX)
  (js_cons (js_set 5 hX (je_op or_mod (je_ty cr_int T.n_int (by decide +kernel) (ja_cons (je_op or_add (je_op or_add (je_op or_mul (je_var 5) je_int) (je_op or_mul je_int (je_var 6))) je_int) ja_nil)) je_int)) (js_cons (js_set 7 hX (je_op or_mod (je_ty cr_int T.n_int (by decide +kernel) (ja_cons (je_op or_mul (je_var 5) (je_op or_add (je_op or_fd (je_var 5) je_int) je_int)) ja_nil)) je_int)) (js_one (js_app 2 (je_op or_mod (je_op or_fd (je_var 7) je_int) (je_ix hX (je_var 1) (je_var 6)))))))) (js_one (js_ret (je_var 2))))))))) sem_law_digits
abbrev s_law_cell : Stmt := topS 8
theorem sc_law_cell : FnScope N_law_cell ["script", "k"] (defScope s_law_cell) := ⟨rfl, rfl, rfl, by decide +kernel, rfl, by decide +kernel, by decide +kernel⟩
theorem ca_law_cell (T : Tx K w mg cl) {f : Addr} {fd : FuncData} (D : Df K mg "_law_cell" s_law_cell f fd) : Ca P w K mg base cl 1 "_law_cell" ["script", "k"] g_law_cell :=
  ca_def D sc_law_cell len_law_cell okt_law_cell (D.fn.binds (fun _ _ _ _ _ _ us hl => match us, hl with | [_, _], _ => rfl)) (kb_of D.fn (fun _ _ _ _ _ _ us hl => match us, hl with | [_, _], _ => rfl)) (fun cdv A outer s H E hr hX =>
  (js_cons (js_if (jt_cmp or_lt (je_var 1) (je_b cr_len T.n_len PySem.boot_len (ja_cons (je_var 0) ja_nil)))
  (js_one (js_ret (je_ix hX (je_var 0) (je_var 1))))
  js_nil) (js_cons (js_set 2 hX je_int) (js_cons (js_for PassesOwn.never hX (ji_it (je_var 0)) (jg_name 3 hX)
  (js_one (js_set 2 hX (je_op or_mod (je_ty cr_int T.n_int (by decide +kernel) (ja_cons (je_op or_add (je_op or_mul (je_var 2) je_int) (je_op or_mod (je_ty cr_int T.n_int (by decide +kernel) (ja_cons (je_var 3) ja_nil)) je_int)) ja_nil)) je_int)))) (js_one (js_ret (je_op or_mod (je_ty cr_int T.n_int (by decide +kernel) (ja_cons (je_op or_mul (je_op or_mul (je_op or_add (je_var 2) je_int) (je_op or_add (je_var 1) je_int)) je_int) ja_nil)) je_int))))))) sem_law_cell
abbrev s_law_number : Stmt := topS 10
theorem sc_law_number : FnScope N_law_number ["digit"] (defScope s_law_number) := ⟨rfl, rfl, rfl, by decide +kernel, rfl, by decide +kernel, by decide +kernel⟩
theorem ca_law_number (T : Tx K w mg cl) {f : Addr} {fd : FuncData} (D : Df K mg "_law_number" s_law_number f fd) : Ca P w K mg base cl 1 "_law_number" ["digit"] g_law_number :=
  ca_def D sc_law_number len_law_number okt_law_number (D.fn.binds (fun _ _ _ _ _ _ us hl => match us, hl with | [_], _ => rfl)) (kb_of D.fn (fun _ _ _ _ _ _ us hl => match us, hl with | [_], _ => rfl)) (fun cdv A outer s H E hr hX =>
  (js_cons (js_if (jt_cmp or_gt (je_op or_mod (je_ty cr_int T.n_int (by decide +kernel) (ja_cons (je_var 0) ja_nil)) je_int) je_int)
  (js_one (js_ret (je_op or_add (je_op or_mulX je_int (je_op or_sub (je_op or_mod (je_op or_fd (je_ty cr_int T.n_int (by decide +kernel) (ja_cons (je_var 0) ja_nil)) je_int) je_int) je_int)) je_int)))
  js_nil) (js_one (js_ret (je_op or_add (je_op or_mulX je_int (je_op or_sub (je_op or_mod (je_ty cr_int T.n_int (by decide +kernel) (ja_cons (je_op or_mulX (je_op or_fd (je_ty cr_int T.n_int (by decide +kernel) (ja_cons (je_var 0) ja_nil)) je_int) je_int) ja_nil)) je_int) je_int)) je_int))))) sem_law_number
abbrev s_law_word : Stmt := topS 11
theorem sc_law_word : FnScope N_law_word ["digit", "many", "thick"] (defScope s_law_word) := ⟨rfl, rfl, rfl, by decide +kernel, rfl, by decide +kernel, by decide +kernel⟩
theorem ca_law_word (T : Tx K w mg cl) (C_law_number : Ca P w K mg base cl 1 "_law_number" ["digit"] g_law_number) {f : Addr} {fd : FuncData} (D : Df K mg "_law_word" s_law_word f fd) : Ca P w K mg base cl 2 "_law_word" ["digit", "many", "thick"] g_law_word :=
  ca_def D sc_law_word len_law_word okt_law_word (D.fn.binds (fun _ _ _ _ _ _ us hl => match us, hl with | [_, _, _], _ => rfl)) (kb_of D.fn (fun _ _ _ _ _ _ us hl => match us, hl with | [_, _, _], _ => rfl)) (fun cdv A outer s H E hr hX =>
  (js_cons (js_set 3 hX (je_op or_fd (je_ty cr_int T.n_int (by decide +kernel) (ja_cons (je_var 0) ja_nil)) je_int)) (js_cons (js_if (jt_w (jw_and (jt_cmp or_lt (je_op or_mod (je_ty cr_int T.n_int (by decide +kernel) (ja_cons (je_var 0) ja_nil)) je_int) (je_var 2)) (jw_and1 (jt_cmp or_gt (je_var 1) je_int))))
  (js_one (js_ret (je_op or_add (je_op or_mulX je_int (je_op or_mod (je_ty cr_int T.n_int (by decide +kernel) (ja_cons (je_var 3) ja_nil)) (je_var 1))) je_int)))
  js_nil) (js_cons (js_if (jt_cmp (or_eq hX) (je_op or_mod (je_ty cr_int T.n_int (by decide +kernel) (ja_cons (je_var 0) ja_nil)) je_int) (je_var 2))
  (js_one (js_ret je_int))
  js_nil) (js_one (js_ret (jc C_law_number hr (ja_cons (je_var 3) ja_nil)))))))) sem_law_word
abbrev s_law_any : Stmt := topS 12
theorem sc_law_any : FnScope N_law_any ["digit", "many", "thick"] (defScope s_law_any) := ⟨rfl, rfl, rfl, by decide +kernel, rfl, by decide +kernel, by decide +kernel⟩
theorem ca_law_any (T : Tx K w mg cl) (C_law_word : Ca P w K mg base cl 2 "_law_word" ["digit", "many", "thick"] g_law_word) {f : Addr} {fd : FuncData} (D : Df K mg "_law_any" s_law_any f fd) : Ca P w K mg base cl 3 "_law_any" ["digit", "many", "thick"] g_law_any :=
  ca_def D sc_law_any len_law_any okt_law_any (D.fn.binds (fun _ _ _ _ _ _ us hl => match us, hl with | [_, _, _], _ => rfl)) (kb_of D.fn (fun _ _ _ _ _ _ us hl => match us, hl with | [_, _, _], _ => rfl)) (fun cdv A outer s H E hr hX =>
  (js_cons (js_set 3 hX (je_op or_fd (je_ty cr_int T.n_int (by decide +kernel) (ja_cons (je_var 0) ja_nil)) je_int)) (js_cons (js_set 4 hX (je_op or_mulX je_int (je_op or_mod (je_op or_fd (je_ty cr_int T.n_int (by decide +kernel) (ja_cons (je_var 3) ja_nil)) je_int) je_int))) (js_cons (js_if (jt_w (jw_or (jt_cmp or_lt (je_var 2) je_int) (jw_or1 (jt_cmp (or_eq hX) (je_op or_mod (je_ty cr_int T.n_int (by decide +kernel) (ja_cons (je_var 0) ja_nil)) je_int) je_int))))
  (js_one (js_ret (jc C_law_word hr (ja_cons (je_var 3) (ja_cons (je_var 1) (ja_cons (je_op or_mod (je_ty cr_int T.n_int (by decide +kernel) (ja_cons (je_var 2) ja_nil)) je_int) ja_nil))))))
  js_nil) (js_one (js_ret (je_ix hX (je_l (jl_d (ja_cons (je_op or_add (je_op or_add (je_op or_mulX je_int (je_var 1)) je_int) (je_var 4)) (ja_cons (je_op or_sub (je_neg je_int) (je_var 4)) (ja_cons (je_op or_add je_int (je_var 4)) ja_nil))))) (je_op or_sub (je_op or_mod (je_ty cr_int T.n_int (by decide +kernel) (ja_cons (je_var 0) ja_nil)) je_int) je_int)))))))) sem_law_any
abbrev s_law_name : Stmt := topS 13
theorem sc_law_name : FnScope N_law_name ["digit", "odd"] (defScope s_law_name) := ⟨rfl, rfl, rfl, by decide +kernel, rfl, by decide +kernel, by decide +kernel⟩
theorem ca_law_name (T : Tx K w mg cl) {f : Addr} {fd : FuncData} (D : Df K mg "_law_name" s_law_name f fd) : Ca P w K mg base cl 1 "_law_name" ["digit", "odd"] g_law_name :=
  ca_def D sc_law_name len_law_name okt_law_name (D.fn.binds (fun _ _ _ _ _ _ us hl => match us, hl with | [_, _], _ => rfl)) (kb_of D.fn (fun _ _ _ _ _ _ us hl => match us, hl with | [_, _], _ => rfl)) (fun cdv A outer s H E hr hX =>
  (js_cons (js_if (jt_v (je_var 1))
  (js_one (js_ret (je_ix hX (je_l (jl_d (ja_cons je_str (ja_cons je_str (ja_cons je_str (ja_cons je_str (ja_cons je_str (ja_cons je_str (ja_cons je_str (ja_cons je_str ja_nil)))))))))) (je_var 0))))
  js_nil) (js_one (js_ret (je_ix hX (je_l (jl_d (ja_cons je_str (ja_cons je_str (ja_cons je_str (ja_cons je_str (ja_cons je_str (ja_cons je_str (ja_cons je_str (ja_cons je_str ja_nil)))))))))) (je_var 0)))))) sem_law_name
abbrev s_law_objects : Stmt := topS 14
theorem sc_law_objects : FnScope N_law_objects ["script", "at", "many", "thick"] (defScope s_law_objects) := ⟨rfl, rfl, rfl, by decide +kernel, rfl, by decide +kernel, by decide +kernel⟩
theorem ca_law_objects (T : Tx K w mg cl) (C_law_digits : Ca P w K mg base cl 1 "_law_digits" ["cell", "sizes"] g_law_digits) (C_law_cell : Ca P w K mg base cl 1 "_law_cell" ["script", "k"] g_law_cell) (C_law_any : Ca P w K mg base cl 3 "_law_any" ["digit", "many", "thick"] g_law_any) (C_law_name : Ca P w K mg base cl 1 "_law_name" ["digit", "odd"] g_law_name) {f : Addr} {fd : FuncData} (D : Df K mg "_law_objects" s_law_objects f fd) : Ca P w K mg base cl 4 "_law_objects" ["script", "at", "many", "thick"] g_law_objects :=
  ca_def D sc_law_objects len_law_objects okt_law_objects (D.fn.binds (fun _ _ _ _ _ _ us hl => match us, hl with | [_, _, _, _], _ => rfl)) (kb_of D.fn (fun _ _ _ _ _ _ us hl => match us, hl with | [_, _, _, _], _ => rfl)) (fun cdv A outer s H E hr hX =>
  (js_cons (js_own 4 hX (jl_d ja_nil)) (js_cons (js_for PassesOwn.never hX (ji_range1 gwf_s T.n_range (ja_cons (je_var 2) ja_nil)) (jg_name 5 hX)
  (js_cons (js_set 6 hX (jc C_law_digits hr (ja_cons (jc C_law_cell hr (ja_cons (je_var 0) (ja_cons (je_op or_add (je_var 1) (je_var 5)) ja_nil))) (ja_cons (je_op or_add (je_l (jl_d (ja_cons je_int (ja_cons je_int ja_nil)))) (je_op or_mulX (je_l (jl_d (ja_cons je_int ja_nil))) je_int)) ja_nil)))) (js_cons (js_setLc 7 [("digit", 8)] hX (jir_it (je_sl (je_var 6) (jo_some je_int) jo_none)) (by rfl) (fun _ _ _ _ _ => (jg_name 8 (XS.blk hX))) (fun _ _ _ _ _ => jts_nil) (fun _ _ _ _ _ => (jc C_law_any hr (ja_cons (je_var 8) (ja_cons (je_var 2) (ja_cons (je_var 3) ja_nil)))))) (js_one (js_if (jt_w (jw_and (jt_cmp or_gt (je_var 5) je_int) (jw_and1 (jt_cmp or_gt (je_ix hX (je_var 6) je_int) je_int))))
  (js_one (js_app 4 (je_l (jl_d (ja_cons (je_ix hX (je_ix hX (je_var 4) (je_op or_sub (je_var 5) je_int)) je_int) (ja_cons (je_l (jl_ty crl_list T.n_list (by decide +kernel) (ja_cons (je_ix hX (je_ix hX (je_var 4) (je_op or_sub (je_var 5) je_int)) je_int) ja_nil))) ja_nil))))))
  (js_cons (js_set 9 hX (je_ix hX (je_l (jl_d (ja_cons je_int (ja_cons je_int (ja_cons je_int (ja_cons je_int (ja_cons je_int (ja_cons je_int (ja_cons je_int (ja_cons je_int (ja_cons je_int (ja_cons je_int (ja_cons je_int (ja_cons je_int (ja_cons je_int (ja_cons je_int (ja_cons je_int ja_nil))))))))))))))))) (je_ix hX (je_var 6) je_int))) (js_one (js_app 4 (je_l (jl_d (ja_cons (jc C_law_name hr (ja_cons (je_ix hX (je_var 6) je_int) (ja_cons (je_cmp or_gt (je_var 3) je_int) ja_nil))) (ja_cons (je_sl (je_var 7) jo_none (jo_some (je_var 9))) ja_nil)))))))))))) (js_one (js_ret (je_var 4)))))) sem_law_objects
abbrev s_law_list : Stmt := topS 15
theorem sc_law_list : FnScope N_law_list ["cell", "count", "odd"] (defScope s_law_list) := ⟨rfl, rfl, rfl, by decide +kernel, rfl, by decide +kernel, by decide +kernel⟩
theorem ca_law_list (T : Tx K w mg cl) (C_law_digits : Ca P w K mg base cl 1 "_law_digits" ["cell", "sizes"] g_law_digits) (C_law_any : Ca P w K mg base cl 3 "_law_any" ["digit", "many", "thick"] g_law_any) {f : Addr} {fd : FuncData} (D : Df K mg "_law_list" s_law_list f fd) : Ca P w K mg base cl 4 "_law_list" ["cell", "count", "odd"] g_law_list :=
  ca_def D sc_law_list len_law_list okt_law_list (D.fn.binds (fun _ _ _ _ _ _ us hl => match us, hl with | [_, _, _], _ => rfl)) (kb_of D.fn (fun _ _ _ _ _ _ us hl => match us, hl with | [_, _, _], _ => rfl)) (fun cdv A outer s H E hr hX =>
  (js_cons (js_set 3 hX (jc C_law_digits hr (ja_cons (je_var 0) (ja_cons (je_op or_add (je_l (jl_d (ja_cons je_int ja_nil))) (je_op or_mulX (je_l (jl_d (ja_cons je_int ja_nil))) je_int)) ja_nil)))) (js_cons (js_set 4 hX (je_sl (je_var 3) (jo_some je_int) (jo_some (je_op or_add je_int (je_ix hX (je_l (jl_d (ja_cons je_int (ja_cons je_int (ja_cons je_int (ja_cons je_int (ja_cons je_int (ja_cons je_int (ja_cons je_int (ja_cons je_int ja_nil)))))))))) (je_ix hX (je_var 3) je_int)))))) (js_cons (js_if (jt_v (je_var 2))
  (js_one (js_ret (je_l (jl_lc [("digit", 5)] hX (jir_it (je_var 4)) (by rfl) (fun _ _ _ _ _ => (jg_name 5 (XS.blk hX))) (fun _ _ _ _ _ => jts_nil) (fun _ _ _ _ _ => (jc C_law_any hr (ja_cons (je_var 5) (ja_cons (je_var 1) (ja_cons je_int ja_nil)))))))))
  js_nil) (js_one (js_ret (je_l (jl_lc [("digit", 5)] hX (jir_it (je_var 4)) (by rfl) (fun _ _ _ _ _ => (jg_name 5 (XS.blk hX))) (fun _ _ _ _ _ => (jts_one (jt_cmp or_gt (je_var 1) je_int))) (fun _ _ _ _ _ => (je_op or_add (je_op or_mulX je_int (je_op or_mod (je_ty cr_int T.n_int (by decide +kernel) (ja_cons (je_var 5) ja_nil)) (je_var 1))) je_int)))))))))) sem_law_list
abbrev s_law_parts : Stmt := topS 16
theorem sc_law_parts : FnScope N_law_parts ["script"] (defScope s_law_parts) := ⟨rfl, rfl, rfl, by decide +kernel, rfl, by decide +kernel, by decide +kernel⟩
theorem ca_law_parts (T : Tx K w mg cl) (C_law_digits : Ca P w K mg base cl 1 "_law_digits" ["cell", "sizes"] g_law_digits) (C_law_cell : Ca P w K mg base cl 1 "_law_cell" ["script", "k"] g_law_cell) (C_law_objects : Ca P w K mg base cl 4 "_law_objects" ["script", "at", "many", "thick"] g_law_objects) (C_law_any : Ca P w K mg base cl 3 "_law_any" ["digit", "many", "thick"] g_law_any) (C_law_name : Ca P w K mg base cl 1 "_law_name" ["digit", "odd"] g_law_name) (C_law_list : Ca P w K mg base cl 4 "_law_list" ["cell", "count", "odd"] g_law_list) {f : Addr} {fd : FuncData} (D : Df K mg "_law_parts" s_law_parts f fd) : Ca P w K mg base cl 5 "_law_parts" ["script"] g_law_parts :=
  ca_def D sc_law_parts len_law_parts okt_law_parts (D.fn.binds (fun _ _ _ _ _ _ us hl => match us, hl with | [_], _ => rfl)) (kb_of D.fn (fun _ _ _ _ _ _ us hl => match us, hl with | [_], _ => rfl)) (fun cdv A outer s H E hr hX =>
  (js_cons (js_set 1 hX (jc C_law_digits hr (ja_cons (jc C_law_cell hr (ja_cons (je_var 0) (ja_cons je_int ja_nil))) (ja_cons (je_l (jl_d (ja_cons je_int (ja_cons je_int (ja_cons je_int (ja_cons je_int (ja_cons je_int ja_nil))))))) ja_nil)))) (js_cons (js_set 2 hX (je_ix hX (je_l (jl_d (ja_cons je_int (ja_cons je_int (ja_cons je_int (ja_cons je_int (ja_cons je_int (ja_cons je_int (ja_cons je_int (ja_cons je_int (ja_cons je_int (ja_cons je_int (ja_cons je_int (ja_cons je_int (ja_cons je_int (ja_cons je_int (ja_cons je_int ja_nil))))))))))))))))) (je_ix hX (je_var 1) je_int))) (js_cons (js_set 3 hX (je_cmp (or_eq hX) (je_ix hX (je_var 1) je_int) je_int)) (js_cons (js_set 4 hX (je_op or_add (je_ix hX (je_l (jl_d (ja_cons je_int (ja_cons je_int (ja_cons je_int (ja_cons je_int ja_nil)))))) (je_ix hX (je_var 1) je_int)) (je_op or_mulX je_int (je_ty cr_int T.n_int (by decide +kernel) (ja_cons (je_var 3) ja_nil))))) (js_cons (js_set 5 hX (jc C_law_objects hr (ja_cons (je_var 0) (ja_cons je_int (ja_cons (je_var 2) (ja_cons (je_var 4) ja_nil)))))) (js_cons (js_own 6 hX (jl_d ja_nil)) (js_cons (js_for PassesOwn.never hX (ji_range1 gwf_s T.n_range (ja_cons (je_ix hX (je_l (jl_d (ja_cons je_int (ja_cons je_int (ja_cons je_int (ja_cons je_int (ja_cons je_int (ja_cons je_int ja_nil)))))))) (je_ix hX (je_var 1) je_int)) ja_nil)) (jg_name 7 hX)
  (js_cons (js_set 8 hX (jc C_law_digits hr (ja_cons (jc C_law_cell hr (ja_cons (je_var 0) (ja_cons (je_op or_add je_int (je_var 7)) ja_nil))) (ja_cons (je_op or_add (je_l (jl_d (ja_cons je_int (ja_cons je_int (ja_cons je_int (ja_cons je_int ja_nil)))))) (je_op or_mulX (je_l (jl_d (ja_cons je_int ja_nil))) je_int)) ja_nil)))) (js_cons (js_setLc 9 [("digit", 10)] hX (jir_it (je_sl (je_var 8) (jo_some je_int) jo_none)) (by rfl) (fun _ _ _ _ _ => (jg_name 10 (XS.blk hX))) (fun _ _ _ _ _ => jts_nil) (fun _ _ _ _ _ => (jc C_law_any hr (ja_cons (je_var 10) (ja_cons (je_var 2) (ja_cons (je_var 4) ja_nil)))))) (js_cons (js_set 11 hX (je_ix hX (je_l (jl_d (ja_cons je_int (ja_cons je_int (ja_cons je_int (ja_cons je_int (ja_cons je_int (ja_cons je_int ja_nil)))))))) (je_ix hX (je_var 8) je_int))) (js_cons (js_set 12 hX (je_ix hX (je_l (jl_d (ja_cons (je_ix hX (je_var 8) je_int) (ja_cons (je_op or_sub je_int (je_op or_mulX je_int (je_ix hX (je_var 8) je_int))) ja_nil)))) (je_ty cr_int T.n_int (by decide +kernel) (ja_cons (je_var 3) ja_nil)))) (js_one (js_app 6 (je_l (jl_d (ja_cons (jc C_law_name hr (ja_cons (je_ix hX (je_var 8) je_int) (ja_cons (je_var 3) ja_nil))) (ja_cons (je_var 12) (ja_cons (je_sl (je_var 9) jo_none (jo_some (je_var 11))) (ja_cons (je_sl (je_var 9) (jo_some je_int) (jo_some (je_op or_add je_int (je_ix hX (je_l (jl_d (ja_cons je_int (ja_cons je_int (ja_cons je_int (ja_cons je_int (ja_cons je_int (ja_cons je_int ja_nil)))))))) (je_ix hX (je_var 8) je_int))))) ja_nil))))))))))))) (js_cons (js_set 8 hX (jc C_law_digits hr (ja_cons (jc C_law_cell hr (ja_cons (je_var 0) (ja_cons je_int ja_nil))) (ja_cons (je_op or_mulX (je_l (jl_d (ja_cons je_int ja_nil))) je_int) ja_nil)))) (js_cons (js_setLc 13 [("digit", 10)] hX (jir_it (je_sl (je_var 8) jo_none (jo_some (je_ix hX (je_var 1) je_int)))) (by rfl) (fun _ _ _ _ _ => (jg_name 10 (XS.blk hX))) (fun _ _ _ _ _ => jts_nil) (fun _ _ _ _ _ => (jc C_law_any hr (ja_cons (je_var 10) (ja_cons (je_var 2) (ja_cons (je_var 4) ja_nil)))))) (js_cons (js_set 14 hX (je_l (jl_d (ja_cons (jc C_law_list hr (ja_cons (jc C_law_cell hr (ja_cons (je_var 0) (ja_cons je_int ja_nil))) (ja_cons (je_var 2) (ja_cons (je_var 3) ja_nil)))) (ja_cons (jc C_law_list hr (ja_cons (jc C_law_cell hr (ja_cons (je_var 0) (ja_cons je_int ja_nil))) (ja_cons (je_var 2) (ja_cons (je_var 3) ja_nil)))) ja_nil))))) (js_one (js_ret (je_l (jl_d (ja_cons (je_var 13) (ja_cons (je_op or_mulX (je_var 6) (je_ix hX (je_l (jl_d (ja_cons je_int (ja_cons je_int ja_nil)))) (je_ty cr_int T.n_int (by decide +kernel) (ja_cons (je_var 3) ja_nil)))) (ja_cons (je_ix hX (je_var 14) je_int) (ja_cons (je_ix hX (je_var 14) je_int) (ja_cons (je_var 5) ja_nil)))))))))))))))))))) sem_law_parts
abbrev s_law_frozen : Stmt := topS 19
theorem sc_law_frozen : FnScope N_law_frozen ["parts"] (defScope s_law_frozen) := ⟨rfl, rfl, rfl, by decide +kernel, rfl, by decide +kernel, by decide +kernel⟩
theorem ca_law_frozen (T : Tx K w mg cl) {f : Addr} {fd : FuncData} (D : Df K mg "_law_frozen" s_law_frozen f fd) : Ca P w K mg base cl 1 "_law_frozen" ["parts"] g_law_frozen :=
  ca_def D sc_law_frozen len_law_frozen okt_law_frozen (D.fn.binds (fun _ _ _ _ _ _ us hl => match us, hl with | [_], _ => rfl)) (kb_of D.fn (fun _ _ _ _ _ _ us hl => match us, hl with | [_], _ => rfl)) (fun cdv A outer s H E hr hX =>
  (js_cons (js_setLc 1 [("frame", 2)] hX (jir_it (je_ix hX (je_var 0) je_int)) (by rfl) (fun _ _ _ _ _ => (jg_name 2 (XS.blk hX))) (fun _ _ _ _ _ => jts_nil) (fun _ _ _ _ _ => (je_tup (ja_cons (je_ix (XS.blk hX) (je_var 2) je_int) (ja_cons (je_ix (XS.blk hX) (je_var 2) je_int) (ja_cons (je_ty cr_tup T.n_tuple (by decide +kernel) (ja_cons (je_ix (XS.blk hX) (je_var 2) je_int) ja_nil)) (ja_cons (je_ty cr_tup T.n_tuple (by decide +kernel) (ja_cons (je_ix (XS.blk hX) (je_var 2) je_int) ja_nil)) ja_nil))))))) (js_cons (js_setLc 3 [("thing", 4)] hX (jir_it (je_ix hX (je_var 0) je_int)) (by rfl) (fun _ _ _ _ _ => (jg_name 4 (XS.blk hX))) (fun _ _ _ _ _ => jts_nil) (fun _ _ _ _ _ => (je_tup (ja_cons (je_ix (XS.blk hX) (je_var 4) je_int) (ja_cons (je_ty cr_tup T.n_tuple (by decide +kernel) (ja_cons (je_ix (XS.blk hX) (je_var 4) je_int) ja_nil)) ja_nil))))) (js_one (js_ret (je_tup (ja_cons (je_ty cr_tup T.n_tuple (by decide +kernel) (ja_cons (je_ix hX (je_var 0) je_int) ja_nil)) (ja_cons (je_ty cr_tup T.n_tuple (by decide +kernel) (ja_cons (je_var 1) ja_nil)) (ja_cons (je_ty cr_tup T.n_tuple (by decide +kernel) (ja_cons (je_ix hX (je_var 0) je_int) ja_nil)) (ja_cons (je_ty cr_tup T.n_tuple (by decide +kernel) (ja_cons (je_ix hX (je_var 0) je_int) ja_nil)) (ja_cons (je_ty cr_tup T.n_tuple (by decide +kernel) (ja_cons (je_var 3) ja_nil)) ja_nil))))))))))) sem_law_frozen
abbrev s_law_listed : Stmt := topS 18
theorem sc_law_listed : FnScope N_law_listed ["parts"] (defScope s_law_listed) := ⟨rfl, rfl, rfl, by decide +kernel, rfl, by decide +kernel, by decide +kernel⟩
theorem fn_law_listed (T : Tx K w mg cl) {f : Addr} {fd : FuncData} (D : Df K mg "_law_listed" s_law_listed f fd) : FnOk P w K mg base (L2.CX P w) 1 f fd ["parts"] (spX ⟨K, cl⟩ g_law_listed) :=
  ok_defX D.fn sc_law_listed gFX_len (fun cdv A outer s H E hr hX tk hp =>
  (jz_cons (jz_setLc 1 [("frame", 2)] hX (jx_ix hX (jx_h (jh_var 0)) (jx_e je_int)) (by rfl) (fun _ _ _ _ _ => (jgx_name 2 (XS.blk hX))) (fun _ _ _ _ _ => jxts_nil) (fun _ _ _ _ _ => (jx_lst (jxa_cons (jx_ix (XS.blk hX) (jx_h (jh_var 2)) (jx_e je_int)) (jxa_cons (jx_ix (XS.blk hX) (jx_h (jh_var 2)) (jx_e je_int)) (jxa_cons (jx_list T.n_list (jx_ix (XS.blk hX) (jx_h (jh_var 2)) (jx_e je_int)) (by decide +kernel)) (jxa_cons (jx_list T.n_list (jx_ix (XS.blk hX) (jx_h (jh_var 2)) (jx_e je_int)) (by decide +kernel)) jxa_nil))))))) (jz_one (jz_ret (jx_lst (jxa_cons (jx_list T.n_list (jx_ix hX (jx_h (jh_var 0)) (jx_e je_int)) (by decide +kernel)) (jxa_cons (jx_h (jh_var 1)) (jxa_cons (jx_list T.n_list (jx_ix hX (jx_h (jh_var 0)) (jx_e je_int)) (by decide +kernel)) (jxa_cons (jx_list T.n_list (jx_ix hX (jx_h (jh_var 0)) (jx_e je_int)) (by decide +kernel)) (jxa_cons (jx_lc [("thing", 3)] hX (jx_ix hX (jx_h (jh_var 0)) (jx_e je_int)) (by rfl) (fun _ _ _ _ _ => (jgx_name 3 (XS.blk hX))) (fun _ _ _ _ _ => jxts_nil) (fun _ _ _ _ _ => (jx_lst (jxa_cons (jx_ix (XS.blk hX) (jx_h (jh_var 3)) (jx_e je_int)) (jxa_cons (jx_list T.n_list (jx_ix (XS.blk hX) (jx_h (jh_var 3)) (jx_e je_int)) (by decide +kernel)) jxa_nil))))) jxa_nil)))))))))) gFX_sem
theorem ca_law_listed (T : Tx K w mg cl) {f : Addr} {fd : FuncData} (D : Df K mg "_law_listed" s_law_listed f fd) : CaX P w K mg base cl 1 "_law_listed" ["parts"] g_law_listed :=
  ⟨⟨f, fd, fn_law_listed T D, D.gm, D.fn.kp, D.fn.binds (fun _ _ _ _ _ _ us hl => match us, hl with | [_], _ => rfl)⟩⟩
abbrev s_frozen : Stmt := topS 1
theorem sc_frozen : FnScope N_frozen ["value"] (defScope s_frozen) := ⟨rfl, rfl, rfl, by decide +kernel, rfl, by decide +kernel, by decide +kernel⟩
theorem ca_frozen_step (T : Tx K w mg cl) {k : Nat} {gg : List TD → Option TD} {f : Addr} {fd : FuncData} (D : Df K mg "frozen" s_frozen f fd) (CC : Ca P w K mg base cl k "frozen" ["value"] gg) : Ca P w K mg base cl (k + 1) "frozen" ["value"] (gF 1 N_frozen.length (F_frozen gg)) :=
  ca_def D sc_frozen gF_len gF_ok (D.fn.binds (fun _ _ _ _ _ _ us hl => match us, hl with | [_], _ => rfl)) (kb_of D.fn (fun _ _ _ _ _ _ us hl => match us, hl with | [_], _ => rfl)) (fun cdv A outer s H E hr hX =>
  (js_cons (js_if (jt_v (je_isi2 (T1 := "list") (T2 := "tuple") (je_var 0) T.n_isinstance T.n_list T.n_tuple (by decide +kernel) (by decide +kernel)))
  (js_one (js_ret (je_ty cr_tup T.n_tuple (by decide +kernel) (ja_cons (je_l (jl_lc [("part", 1)] hX (jir_it (je_var 0)) (by rfl) (fun _ _ _ _ _ => (jg_name 1 (XS.blk hX))) (fun _ _ _ _ _ => jts_nil) (fun _ _ _ _ _ => (jc CC hr (ja_cons (je_var 1) ja_nil) (hkj := Nat.le_refl _))))) ja_nil))))
  js_nil) (js_one (js_ret (je_var 0))))) gF_sem
theorem ca_frozen (T : Tx K w mg cl) {f : Addr} {fd : FuncData} (D : Df K mg "frozen" s_frozen f fd) : Ca P w K mg base cl 9 "frozen" ["value"] g_frozen := by
  have h : ∀ n, Ca P w K mg base cl n "frozen" ["value"] (gN_frozen n) := by
    intro n
    induction n with
    | zero => exact ca_none D (D.fn.binds (fun _ _ _ _ _ _ us hl => match us, hl with | [_], _ => rfl)) (kb_of D.fn (fun _ _ _ _ _ _ us hl => match us, hl with | [_], _ => rfl))
    | succ n ih => exact ca_frozen_step T D ih
  exact h 9
abbrev s_Picture_init : Stmt := inClass (topS 3) 0
theorem sc_Picture_init : FnScope N_Picture_init ["self", "statics", "frames", "watched", "parted", "objects"] (defScope s_Picture_init) := ⟨rfl, rfl, rfl, by decide +kernel, rfl, by decide +kernel, by decide +kernel⟩
theorem fn_Picture_init (T : Tx K w mg cl) (C_frozen : Ca P w K mg base cl 9 "frozen" ["value"] g_frozen) {f : Addr} {fd : FuncData} (F : Fun K "__init__" "Picture.__init__" s_Picture_init f fd) : FnOk P w K mg base (L2.CX P w) 10 f fd ["self", "statics", "frames", "watched", "parted", "objects"] (spX ⟨K, cl⟩ g_Picture_init) :=
  ok_defX F sc_Picture_init gFX_len (fun cdv A outer s H E hr hX tk hp =>
  (jz_cons (jz_sto T.f_statics (jx_h (jh_var 0)) (jx_callP C_frozen hr (jxa_cons (jx_h (jh_var 1)) jxa_nil))) (jz_cons (jz_sto T.f_frames (jx_h (jh_var 0)) (jx_callP C_frozen hr (jxa_cons (jx_h (jh_var 2)) jxa_nil))) (jz_cons (jz_sto T.f_watched (jx_h (jh_var 0)) (jx_callP C_frozen hr (jxa_cons (jx_h (jh_var 3)) jxa_nil))) (jz_cons (jz_sto T.f_parted (jx_h (jh_var 0)) (jx_callP C_frozen hr (jxa_cons (jx_h (jh_var 4)) jxa_nil))) (jz_one (jz_sto T.f_objects (jx_h (jh_var 0)) (jx_callP C_frozen hr (jxa_cons (jx_h (jh_var 5)) jxa_nil))))))))) gFX_sem
abbrev s_law_whole : Stmt := topS 7
theorem sc_law_whole : FnScope N_law_whole ["value"] (defScope s_law_whole) := ⟨rfl, rfl, rfl, by decide +kernel, rfl, by decide +kernel, by decide +kernel⟩
theorem ca_law_whole (T : Tx K w mg cl) {f : Addr} {fd : FuncData} (D : Df K mg "_law_whole" s_law_whole f fd) : Ca P w K mg base cl 1 "_law_whole" ["value"] g_law_whole :=
  ca_def D sc_law_whole len_law_whole okt_law_whole (D.fn.binds (fun _ _ _ _ _ _ us hl => match us, hl with | [_], _ => rfl)) (kb_of D.fn (fun _ _ _ _ _ _ us hl => match us, hl with | [_], _ => rfl)) (fun cdv A outer s H E hr hX =>
  (js_one (js_ret (je_and (je_isi (T := "int") (je_var 0) T.n_isinstance T.n_int (by decide +kernel)) (je_and1 (je_not (je_isi (T := "bool") (je_var 0) T.n_isinstance T.n_bool (by decide +kernel)))))))) sem_law_whole
abbrev s_law_numbers : Stmt := topS 20
theorem sc_law_numbers : FnScope N_law_numbers ["told", "due"] (defScope s_law_numbers) := ⟨rfl, rfl, rfl, by decide +kernel, rfl, by decide +kernel, by decide +kernel⟩
theorem ca_law_numbers (T : Tx K w mg cl) (C_law_whole : Ca P w K mg base cl 1 "_law_whole" ["value"] g_law_whole) {f : Addr} {fd : FuncData} (D : Df K mg "_law_numbers" s_law_numbers f fd) : Ca P w K mg base cl 2 "_law_numbers" ["told", "due"] g_law_numbers :=
  ca_def D sc_law_numbers len_law_numbers okt_law_numbers (D.fn.binds (fun _ _ _ _ _ _ us hl => match us, hl with | [_, _], _ => rfl)) (kb_of D.fn (fun _ _ _ _ _ _ us hl => match us, hl with | [_, _], _ => rfl)) (fun cdv A outer s H E hr hX =>
  (js_cons (js_if (jt_w (jw_or (jt_not (jt_v (je_isi (T := "tuple") (je_var 0) T.n_isinstance T.n_tuple (by decide +kernel)))) (jw_or1 (jt_cmp (or_ne hX) (je_b cr_len T.n_len PySem.boot_len (ja_cons (je_var 0) ja_nil)) (je_b cr_len T.n_len PySem.boot_len (ja_cons (je_var 1) ja_nil))))))
  (js_one (js_ret je_bl))
  js_nil) (js_cons (js_for PassesOwn.never hX (ji_range1 gwf_s T.n_range (ja_cons (je_b cr_len T.n_len PySem.boot_len (ja_cons (je_var 1) ja_nil)) ja_nil)) (jg_name 2 hX)
  (js_one (js_if (jt_w (jw_or (jt_not (jt_v (jc C_law_whole hr (ja_cons (je_ix hX (je_var 0) (je_var 2)) ja_nil)))) (jw_or1 (jt_cmp (or_ne hX) (je_ix hX (je_var 0) (je_var 2)) (je_ix hX (je_var 1) (je_var 2))))))
  (js_one (js_ret je_bl))
  js_nil))) (js_one (js_ret je_bl))))) sem_law_numbers
abbrev s_law_rows : Stmt := topS 17
theorem sc_law_rows : FnScope N_law_rows ["parts"] (defScope s_law_rows) := ⟨rfl, rfl, rfl, by decide +kernel, rfl, by decide +kernel, by decide +kernel⟩
theorem ca_law_rows (T : Tx K w mg cl) {f : Addr} {fd : FuncData} (D : Df K mg "_law_rows" s_law_rows f fd) : Ca P w K mg base cl 1 "_law_rows" ["parts"] g_law_rows :=
  ca_def D sc_law_rows len_law_rows okt_law_rows (D.fn.binds (fun _ _ _ _ _ _ us hl => match us, hl with | [_], _ => rfl)) (kb_of D.fn (fun _ _ _ _ _ _ us hl => match us, hl with | [_], _ => rfl)) (fun cdv A outer s H E hr hX =>
  (js_cons (js_set 1 hX (je_l (jl_d (ja_cons (je_ix hX (je_var 0) je_int) ja_nil)))) (js_cons (js_for PassesOwn.never hX (ji_it (je_ix hX (je_var 0) je_int)) (jg_name 2 hX)
  (js_one (js_set 1 hX (je_op or_add (je_var 1) (je_l (jl_d (ja_cons (je_ix hX (je_var 2) je_int) (ja_cons (je_ix hX (je_var 2) je_int) ja_nil)))))))) (js_one (js_ret (je_op or_add (je_var 1) (je_l (jl_d (ja_cons (je_ix hX (je_var 0) je_int) (ja_cons (je_ix hX (je_var 0) je_int) ja_nil)))))))))) sem_law_rows
abbrev s_law_things : Stmt := topS 21
theorem sc_law_things : FnScope N_law_things ["told", "due"] (defScope s_law_things) := ⟨rfl, rfl, rfl, by decide +kernel, rfl, by decide +kernel, by decide +kernel⟩
theorem ca_law_things (T : Tx K w mg cl) (C_law_numbers : Ca P w K mg base cl 2 "_law_numbers" ["told", "due"] g_law_numbers) {f : Addr} {fd : FuncData} (D : Df K mg "_law_things" s_law_things f fd) : Ca P w K mg base cl 3 "_law_things" ["told", "due"] g_law_things :=
  ca_def D sc_law_things len_law_things okt_law_things (D.fn.binds (fun _ _ _ _ _ _ us hl => match us, hl with | [_, _], _ => rfl)) (kb_of D.fn (fun _ _ _ _ _ _ us hl => match us, hl with | [_, _], _ => rfl)) (fun cdv A outer s H E hr hX =>
  (js_cons (js_if (jt_w (jw_or (jt_not (jt_v (je_isi (T := "tuple") (je_var 0) T.n_isinstance T.n_tuple (by decide +kernel)))) (jw_or1 (jt_cmp (or_ne hX) (je_b cr_len T.n_len PySem.boot_len (ja_cons (je_var 0) ja_nil)) (je_b cr_len T.n_len PySem.boot_len (ja_cons (je_var 1) ja_nil))))))
  (js_one (js_ret je_bl))
  js_nil) (js_cons (js_for PassesOwn.never hX (ji_range1 gwf_s T.n_range (ja_cons (je_b cr_len T.n_len PySem.boot_len (ja_cons (je_var 1) ja_nil)) ja_nil)) (jg_name 2 hX)
  (js_cons (js_if (jt_w (jw_or (jt_not (jt_v (je_isi (T := "tuple") (je_ix hX (je_var 0) (je_var 2)) T.n_isinstance T.n_tuple (by decide +kernel)))) (jw_or (jt_cmp (or_ne hX) (je_b cr_len T.n_len PySem.boot_len (ja_cons (je_ix hX (je_var 0) (je_var 2)) ja_nil)) je_int) (jw_or1 (jt_not (jt_v (je_isi (T := "str") (je_ix hX (je_ix hX (je_var 0) (je_var 2)) je_int) T.n_isinstance T.n_str (by decide +kernel))))))))
  (js_one (js_ret je_bl))
  js_nil) (js_one (js_if (jt_w (jw_or (jt_cmp (or_ne hX) (je_ix hX (je_ix hX (je_var 0) (je_var 2)) je_int) (je_ix hX (je_ix hX (je_var 1) (je_var 2)) je_int)) (jw_or1 (jt_not (jt_v (jc C_law_numbers hr (ja_cons (je_ix hX (je_ix hX (je_var 0) (je_var 2)) je_int) (ja_cons (je_ix hX (je_ix hX (je_var 1) (je_var 2)) je_int) ja_nil))))))))
  (js_one (js_ret je_bl))
  js_nil)))) (js_one (js_ret je_bl))))) sem_law_things
abbrev s_root_rows : Stmt := topS 5
theorem sc_root_rows : FnScope N_root_rows ["statics", "frames", "watched", "parted"] (defScope s_root_rows) := ⟨rfl, rfl, rfl, by decide +kernel, rfl, by decide +kernel, by decide +kernel⟩
theorem ca_root_rows (T : Tx K w mg cl) {f : Addr} {fd : FuncData} (D : Df K mg "root_rows" s_root_rows f fd) : Ca P w K mg base cl 1 "root_rows" ["statics", "frames", "watched", "parted"] g_root_rows :=
  ca_def D sc_root_rows len_root_rows okt_root_rows (D.fn.binds (fun _ _ _ _ _ _ us hl => match us, hl with | [_, _, _, _], _ => rfl)) (kb_of D.fn (fun _ _ _ _ _ _ us hl => match us, hl with | [_, _, _, _], _ => rfl)) (fun cdv A outer s H E hr hX =>
  (js_cons (js_own 4 hX (jl_d (ja_cons (je_var 0) ja_nil))) (js_cons (js_for PassesOwn.never hX (ji_it (je_var 1)) (jg_tup hX (jgs_cons (jg_name 5 hX) (jgs_cons (jg_name 5 hX) (jgs_cons (jg_name 6 hX) (jgs_cons (jg_name 7 hX) jgs_nil)))))
  (js_one (js_ext 4 (je_l (jl_d (ja_cons (je_var 6) (ja_cons (je_var 7) ja_nil))))))) (js_cons (js_ext 4 (je_l (jl_d (ja_cons (je_var 2) (ja_cons (je_var 3) ja_nil))))) (js_one (js_ret (je_ty cr_tup T.n_tuple (by decide +kernel) (ja_cons (je_var 4) ja_nil)))))))) sem_root_rows
abbrev s_Picture_rows : Stmt := inClass (topS 3) 2
theorem sc_Picture_rows : FnScope N_Picture_rows ["self"] (defScope s_Picture_rows) := ⟨rfl, rfl, rfl, by decide +kernel, rfl, by decide +kernel, by decide +kernel⟩
theorem fn_Picture_rows (T : Tx K w mg cl) (C_root_rows : Ca P w K mg base cl 1 "root_rows" ["statics", "frames", "watched", "parted"] g_root_rows) {f : Addr} {fd : FuncData} (F : Fun K "rows" "Picture.rows" s_Picture_rows f fd) : FnOk P w K mg base (L2.CX P w) 2 f fd ["self"] (spX ⟨K, cl⟩ g_Picture_rows) :=
  ok_defX F sc_Picture_rows gFX_len (fun cdv A outer s H E hr hX tk hp =>
  (jz_one (jz_ret (jx_callP C_root_rows hr (jxa_cons (jx_fld T.f_statics (jx_h (jh_var 0))) (jxa_cons (jx_fld T.f_frames (jx_h (jh_var 0))) (jxa_cons (jx_fld T.f_watched (jx_h (jh_var 0))) (jxa_cons (jx_fld T.f_parted (jx_h (jh_var 0))) jxa_nil)))))))) gFX_sem
abbrev s_law_shows : Stmt := topS 22
theorem sc_law_shows : FnScope N_law_shows ["picture", "due"] (defScope s_law_shows) := ⟨rfl, rfl, rfl, by decide +kernel, rfl, by decide +kernel, by decide +kernel⟩
theorem fn_law_shows (T : Tx K w mg cl) (C_law_whole : Ca P w K mg base cl 1 "_law_whole" ["value"] g_law_whole) (C_law_numbers : Ca P w K mg base cl 2 "_law_numbers" ["told", "due"] g_law_numbers) (C_law_rows : Ca P w K mg base cl 1 "_law_rows" ["parts"] g_law_rows) (C_law_things : Ca P w K mg base cl 3 "_law_things" ["told", "due"] g_law_things) (E_Picture_rows : MeX P w K mg base cl 2 "Picture" "rows" ["self"] g_Picture_rows) {f : Addr} {fd : FuncData} (D : Df K mg "_law_shows" s_law_shows f fd) : FnOk P w K mg base (L2.CX P w) 4 f fd ["picture", "due"] (spX ⟨K, cl⟩ g_law_shows) :=
  ok_defX D.fn sc_law_shows gFX_len (fun cdv A outer s H E hr hX tk hp =>
  (jz_cons (jz_if (jxt_w (jxw_or (jxt_not (jxt_v (jx_callP C_law_numbers hr (jxa_cons (jx_fld T.f_statics (jx_h (jh_var 0))) (jxa_cons (jx_e (je_ix hX (je_var 1) je_int)) jxa_nil))))) (jxw_or1 (jxt_not (jxt_v (jx_callP C_law_numbers hr (jxa_cons (jx_fld T.f_watched (jx_h (jh_var 0))) (jxa_cons (jx_e (je_ix hX (je_var 1) je_int)) jxa_nil))))))))
  (jz_one (jz_ret (jx_e je_bl)))
  jz_nil) (jz_cons (jz_if (jxt_w (jxw_or (jxt_not (jxt_v (jx_callP C_law_numbers hr (jxa_cons (jx_fld T.f_parted (jx_h (jh_var 0))) (jxa_cons (jx_e (je_ix hX (je_var 1) je_int)) jxa_nil))))) (jxw_or1 (jxt_not (jxt_v (jx_callP C_law_things hr (jxa_cons (jx_fld T.f_objects (jx_h (jh_var 0))) (jxa_cons (jx_e (je_ix hX (je_var 1) je_int)) jxa_nil))))))))
  (jz_one (jz_ret (jx_e je_bl)))
  jz_nil) (jz_cons (jz_set 2 hX (jx_fld T.f_frames (jx_h (jh_var 0)))) (jz_cons (jz_if (jxt_p (jt_w (jw_or (jt_not (jt_v (je_isi (T := "tuple") (je_var 2) T.n_isinstance T.n_tuple (by decide +kernel)))) (jw_or1 (jt_cmp (or_ne hX) (je_b cr_len T.n_len PySem.boot_len (ja_cons (je_var 2) ja_nil)) (je_b cr_len T.n_len PySem.boot_len (ja_cons (je_ix hX (je_var 1) je_int) ja_nil)))))))
  (jz_one (jz_ret (jx_e je_bl)))
  jz_nil) (jz_cons (jz_for hp hX (ji_range1 gwf_s T.n_range (ja_cons (je_b cr_len T.n_len PySem.boot_len (ja_cons (je_var 2) ja_nil)) ja_nil)) (jg_name 3 hX)
  (jz_cons (jz_set 4 hX (jx_e (je_ix hX (je_var 2) (je_var 3)))) (jz_cons (jz_if (jxt_p (jt_w (jw_or (jt_not (jt_v (je_isi (T := "tuple") (je_var 4) T.n_isinstance T.n_tuple (by decide +kernel)))) (jw_or (jt_cmp (or_ne hX) (je_b cr_len T.n_len PySem.boot_len (ja_cons (je_var 4) ja_nil)) je_int) (jw_or (jt_not (jt_v (je_isi (T := "str") (je_ix hX (je_var 4) je_int) T.n_isinstance T.n_str (by decide +kernel)))) (jw_or1 (jt_not (jt_v (jc C_law_whole hr (ja_cons (je_ix hX (je_var 4) je_int) ja_nil))))))))))
  (jz_one (jz_ret (jx_e je_bl)))
  jz_nil) (jz_cons (jz_if (jxt_p (jt_w (jw_or (jt_cmp (or_ne hX) (je_ix hX (je_var 4) je_int) (je_ix hX (je_ix hX (je_ix hX (je_var 1) je_int) (je_var 3)) je_int)) (jw_or1 (jt_cmp (or_ne hX) (je_ix hX (je_var 4) je_int) (je_ix hX (je_ix hX (je_ix hX (je_var 1) je_int) (je_var 3)) je_int))))))
  (jz_one (jz_ret (jx_e je_bl)))
  jz_nil) (jz_one (jz_if (jxt_p (jt_w (jw_or (jt_not (jt_v (jc C_law_numbers hr (ja_cons (je_ix hX (je_var 4) je_int) (ja_cons (je_ix hX (je_ix hX (je_ix hX (je_var 1) je_int) (je_var 3)) je_int) ja_nil))))) (jw_or1 (jt_not (jt_v (jc C_law_numbers hr (ja_cons (je_ix hX (je_var 4) je_int) (ja_cons (je_ix hX (je_ix hX (je_ix hX (je_var 1) je_int) (je_var 3)) je_int) ja_nil)))))))))
  (jz_one (jz_ret (jx_e je_bl)))
  jz_nil)))))) (jz_cons (jz_set 5 hX (jx_meth0 E_Picture_rows tk hr (jx_h (jh_var 0)))) (jz_cons (jz_set 6 hX (jx_e (jc C_law_rows hr (ja_cons (je_var 1) ja_nil)))) (jz_cons (jz_if (jxt_p (jt_w (jw_or (jt_not (jt_v (je_isi (T := "tuple") (je_var 5) T.n_isinstance T.n_tuple (by decide +kernel)))) (jw_or1 (jt_cmp (or_ne hX) (je_b cr_len T.n_len PySem.boot_len (ja_cons (je_var 5) ja_nil)) (je_b cr_len T.n_len PySem.boot_len (ja_cons (je_var 6) ja_nil)))))))
  (jz_one (jz_ret (jx_e je_bl)))
  jz_nil) (jz_one (jz_ret (jx_e (je_cmp (or_eq hX) (je_b cr_len T.n_len PySem.boot_len (ja_cons (je_l (jl_lc [("k", 3)] hX (ji_range1 gwf_r T.n_range (ja_cons (je_b cr_len T.n_len PySem.boot_len (ja_cons (je_var 6) ja_nil)) ja_nil)) (by rfl) (fun _ _ _ _ _ => (jg_name 3 (XS.blk hX))) (fun _ _ _ _ _ => (jts_one (jt_not (jt_v (jc C_law_numbers hr (ja_cons (je_ix (XS.blk hX) (je_var 5) (je_var 3)) (ja_cons (je_ix (XS.blk hX) (je_var 6) (je_var 3)) ja_nil))))))) (fun _ _ _ _ _ => (je_var 3)))) ja_nil)) je_int))))))))))))) gFX_sem
theorem ca_law_shows (T : Tx K w mg cl) (C_law_whole : Ca P w K mg base cl 1 "_law_whole" ["value"] g_law_whole) (C_law_numbers : Ca P w K mg base cl 2 "_law_numbers" ["told", "due"] g_law_numbers) (C_law_rows : Ca P w K mg base cl 1 "_law_rows" ["parts"] g_law_rows) (C_law_things : Ca P w K mg base cl 3 "_law_things" ["told", "due"] g_law_things) (E_Picture_rows : MeX P w K mg base cl 2 "Picture" "rows" ["self"] g_Picture_rows) {f : Addr} {fd : FuncData} (D : Df K mg "_law_shows" s_law_shows f fd) : CaX P w K mg base cl 4 "_law_shows" ["picture", "due"] g_law_shows :=
  ⟨⟨f, fd, fn_law_shows T C_law_whole C_law_numbers C_law_rows C_law_things E_Picture_rows D, D.gm, D.fn.kp, D.fn.binds (fun _ _ _ _ _ _ us hl => match us, hl with | [_, _], _ => rfl)⟩⟩
abbrev s_picture_parts : Stmt := topS 4
theorem sc_picture_parts : FnScope N_picture_parts ["picture"] (defScope s_picture_parts) := ⟨rfl, rfl, rfl, by decide +kernel, rfl, by decide +kernel, by decide +kernel⟩
theorem fn_picture_parts (T : Tx K w mg cl) {f : Addr} {fd : FuncData} (D : Df K mg "picture_parts" s_picture_parts f fd) : FnOk P w K mg base (L2.CX P w) 1 f fd ["picture"] (spX ⟨K, cl⟩ g_picture_parts) :=
  ok_defX D.fn sc_picture_parts gFX_len (fun cdv A outer s H E hr hX tk hp =>
  (jz_one (jz_ret (jx_tup (jxa_cons (jx_fld T.f_statics (jx_h (jh_var 0))) (jxa_cons (jx_fld T.f_frames (jx_h (jh_var 0))) (jxa_cons (jx_fld T.f_watched (jx_h (jh_var 0))) (jxa_cons (jx_fld T.f_parted (jx_h (jh_var 0))) (jxa_cons (jx_fld T.f_objects (jx_h (jh_var 0))) jxa_nil))))))))) gFX_sem
theorem ca_picture_parts (T : Tx K w mg cl) {f : Addr} {fd : FuncData} (D : Df K mg "picture_parts" s_picture_parts f fd) : CaX P w K mg base cl 1 "picture_parts" ["picture"] g_picture_parts :=
  ⟨⟨f, fd, fn_picture_parts T D, D.gm, D.fn.kp, D.fn.binds (fun _ _ _ _ _ _ us hl => match us, hl with | [_], _ => rfl)⟩⟩
abbrev s_Picture_eq : Stmt := inClass (topS 3) 1
theorem sc_Picture_eq : FnScope N_Picture_eq ["self", "other"] (defScope s_Picture_eq) := ⟨rfl, rfl, rfl, by decide +kernel, rfl, by decide +kernel, by decide +kernel⟩
theorem fn_Picture_eq (T : Tx K w mg cl) (C_picture_parts : CaX P w K mg base cl 1 "picture_parts" ["picture"] g_picture_parts) {f : Addr} {fd : FuncData} (F : Fun K "__eq__" "Picture.__eq__" s_Picture_eq f fd) : FnOk P w K mg base (L2.CX P w) 2 f fd ["self", "other"] (spX ⟨K, cl⟩ g_Picture_eq) :=
  ok_defX F sc_Picture_eq gFX_len (fun cdv A outer s H E hr hX tk hp =>
  (jz_one (jz_ret (jx_and (jx_iso T.i_Picture (jx_h (jh_var 1)) T.n_isinstance) (jx_and1 (jx_cmp (or_eq hX) (jx_call C_picture_parts tk hr (jxa_cons (jx_h (jh_var 0)) jxa_nil)) (jx_call C_picture_parts tk hr (jxa_cons (jx_h (jh_var 1)) jxa_nil)))))))) gFX_sem
abbrev s_law_frozenX : Stmt := topS 19
theorem sc_law_frozenX : FnScope N_law_frozenX ["parts"] (defScope s_law_frozenX) := ⟨rfl, rfl, rfl, by decide +kernel, rfl, by decide +kernel, by decide +kernel⟩
theorem fn_law_frozenX (T : Tx K w mg cl) {f : Addr} {fd : FuncData} (D : Df K mg "_law_frozen" s_law_frozenX f fd) : FnOk P w K mg base (L2.CX P w) 1 f fd ["parts"] (spX ⟨K, cl⟩ g_law_frozenX) :=
  ok_defX D.fn sc_law_frozenX gFX_len (fun cdv A outer s H E hr hX tk hp =>
  (jz_cons (jz_setLc 1 [("frame", 2)] hX (jx_ix hX (jx_h (jh_var 0)) (jx_e je_int)) (by rfl) (fun _ _ _ _ _ => (jgx_name 2 (XS.blk hX))) (fun _ _ _ _ _ => jxts_nil) (fun _ _ _ _ _ => (jx_tup (jxa_cons (jx_ix (XS.blk hX) (jx_h (jh_var 2)) (jx_e je_int)) (jxa_cons (jx_ix (XS.blk hX) (jx_h (jh_var 2)) (jx_e je_int)) (jxa_cons (jx_tupOf T.n_tuple (jx_ix (XS.blk hX) (jx_h (jh_var 2)) (jx_e je_int)) (by decide +kernel)) (jxa_cons (jx_tupOf T.n_tuple (jx_ix (XS.blk hX) (jx_h (jh_var 2)) (jx_e je_int)) (by decide +kernel)) jxa_nil))))))) (jz_cons (jz_setLc 3 [("thing", 4)] hX (jx_ix hX (jx_h (jh_var 0)) (jx_e je_int)) (by rfl) (fun _ _ _ _ _ => (jgx_name 4 (XS.blk hX))) (fun _ _ _ _ _ => jxts_nil) (fun _ _ _ _ _ => (jx_tup (jxa_cons (jx_ix (XS.blk hX) (jx_h (jh_var 4)) (jx_e je_int)) (jxa_cons (jx_tupOf T.n_tuple (jx_ix (XS.blk hX) (jx_h (jh_var 4)) (jx_e je_int)) (by decide +kernel)) jxa_nil))))) (jz_one (jz_ret (jx_tup (jxa_cons (jx_tupOf T.n_tuple (jx_ix hX (jx_h (jh_var 0)) (jx_e je_int)) (by decide +kernel)) (jxa_cons (jx_tupOf T.n_tuple (jx_h (jh_var 1)) (by decide +kernel)) (jxa_cons (jx_tupOf T.n_tuple (jx_ix hX (jx_h (jh_var 0)) (jx_e je_int)) (by decide +kernel)) (jxa_cons (jx_tupOf T.n_tuple (jx_ix hX (jx_h (jh_var 0)) (jx_e je_int)) (by decide +kernel)) (jxa_cons (jx_tupOf T.n_tuple (jx_h (jh_var 3)) (by decide +kernel)) jxa_nil))))))))))) gFX_sem
theorem ca_law_frozenX (T : Tx K w mg cl) {f : Addr} {fd : FuncData} (D : Df K mg "_law_frozen" s_law_frozenX f fd) : CaX P w K mg base cl 1 "_law_frozen" ["parts"] g_law_frozenX :=
  ⟨⟨f, fd, fn_law_frozenX T D, D.gm, D.fn.kp, D.fn.binds (fun _ _ _ _ _ _ us hl => match us, hl with | [_], _ => rfl)⟩⟩
abbrev s_law_rowsX : Stmt := topS 17
theorem sc_law_rowsX : FnScope N_law_rowsX ["parts"] (defScope s_law_rowsX) := ⟨rfl, rfl, rfl, by decide +kernel, rfl, by decide +kernel, by decide +kernel⟩
theorem fn_law_rowsX (T : Tx K w mg cl) {f : Addr} {fd : FuncData} (D : Df K mg "_law_rows" s_law_rowsX f fd) : FnOk P w K mg base (L2.CX P w) 1 f fd ["parts"] (spX ⟨K, cl⟩ g_law_rowsX) :=
  ok_defX D.fn sc_law_rowsX gFX_len (fun cdv A outer s H E hr hX tk hp =>
  (jz_cons (jz_set 1 hX (jx_lst (jxa_cons (jx_ix hX (jx_h (jh_var 0)) (jx_e je_int)) jxa_nil))) (jz_cons (jz_forH hp hX (jx_ix hX (jx_h (jh_var 0)) (jx_e je_int)) (jgx_name 2 hX)
  (jz_one (jz_set 1 hX (jx_cat (jx_h (jh_var 1)) (jx_lst (jxa_cons (jx_ix hX (jx_h (jh_var 2)) (jx_e je_int)) (jxa_cons (jx_ix hX (jx_h (jh_var 2)) (jx_e je_int)) jxa_nil))))))) (jz_one (jz_ret (jx_cat (jx_h (jh_var 1)) (jx_lst (jxa_cons (jx_ix hX (jx_h (jh_var 0)) (jx_e je_int)) (jxa_cons (jx_ix hX (jx_h (jh_var 0)) (jx_e je_int)) jxa_nil))))))))) gFX_sem
theorem ca_law_rowsX (T : Tx K w mg cl) {f : Addr} {fd : FuncData} (D : Df K mg "_law_rows" s_law_rowsX f fd) : CaX P w K mg base cl 1 "_law_rows" ["parts"] g_law_rowsX :=
  ⟨⟨f, fd, fn_law_rowsX T D, D.gm, D.fn.kp, D.fn.binds (fun _ _ _ _ _ _ us hl => match us, hl with | [_], _ => rfl)⟩⟩
abbrev s_law_changed : Stmt := topS 23
theorem sc_law_changed : FnScope N_law_changed ["parts", "row"] (defScope s_law_changed) := ⟨rfl, rfl, rfl, by decide +kernel, rfl, by decide +kernel, by decide +kernel⟩
theorem fn_law_changed (T : Tx K w mg cl) (C_law_word : Ca P w K mg base cl 2 "_law_word" ["digit", "many", "thick"] g_law_word) (C_law_name : Ca P w K mg base cl 1 "_law_name" ["digit", "odd"] g_law_name) (C_law_listed : CaX P w K mg base cl 1 "_law_listed" ["parts"] g_law_listed) (C_law_rowsX : CaX P w K mg base cl 1 "_law_rows" ["parts"] g_law_rowsX) {f : Addr} {fd : FuncData} (D : Df K mg "_law_changed" s_law_changed f fd) : FnOk P w K mg base (L2.CX P w) 3 f fd ["parts", "row"] (spX ⟨K, cl⟩ g_law_changed) :=
  ok_defX D.fn sc_law_changed gFX_len (fun cdv A outer s H E hr hX tk hp =>
  (jz_cons (jz_set 2 hX (jx_call C_law_listed tk hr (jxa_cons (jx_e (je_var 0)) jxa_nil))) (jz_cons (jz_set 3 hX (jx_e (jc C_law_word hr (ja_cons (je_ix hX (je_var 1) je_int) (ja_cons (je_b cr_len T.n_len PySem.boot_len (ja_cons (je_ix hX (je_var 0) je_int) ja_nil)) (ja_cons je_int ja_nil)))))) (jz_cons (jz_set 4 hX (jx_call C_law_rowsX tk hr (jxa_cons (jx_h (jh_var 2)) jxa_nil))) (jz_cons (jz_set 5 hX (jx_ix hX (jx_lst (jxa_cons (jx_e je_int) (jxa_cons (jx_op or_sub (jx_len T.n_len (jx_h (jh_var 4))) (jx_e je_int)) (jxa_cons (jx_op or_sub (jx_len T.n_len (jx_h (jh_var 4))) (jx_e je_int)) (jxa_cons (jx_op or_mod (jx_e (je_ty cr_int T.n_int (by decide +kernel) (ja_cons (je_ix hX (je_var 1) je_int) ja_nil))) (jx_len T.n_len (jx_h (jh_var 4)))) jxa_nil))))) (jx_e (je_op or_mod (je_ty cr_int T.n_int (by decide +kernel) (ja_cons (je_ix hX (je_var 1) je_int) ja_nil)) je_int)))) (jz_cons (jz_set 6 hX (jx_ix hX (jx_h (jh_var 4)) (jx_e (je_var 5)))) (jz_cons (jz_set 7 hX (jx_e (je_ix hX (je_var 1) je_int))) (jz_cons (jz_if (jxt_w (jxw_and (jxt_p (jt_cmp or_le (je_var 7) je_int)) (jxw_and1 (jxt_cmp or_gt (jx_len T.n_len (jx_h (jh_var 6))) (jx_e je_int)))))
  (jz_one (jz_put hX (jx_e (je_var 3)) (jx_h (jh_var 6)) (jx_op or_mod (jx_e (je_ty cr_int T.n_int (by decide +kernel) (ja_cons (je_ix hX (je_var 1) je_int) ja_nil))) (jx_len T.n_len (jx_h (jh_var 6))))))
  jz_nil) (jz_cons (jz_if (jxt_p (jt_cmp (or_in hX) (je_var 7) (je_l (jl_d (ja_cons je_int (ja_cons je_int ja_nil))))))
  (jz_one (jz_do (jx_lm PySem.F.slot_list_append PySem.F.type_list_append mt_append lm_app (jx_h (jh_var 6)) (jxa_cons (jx_e (je_var 3)) jxa_nil))))
  jz_nil) (jz_cons (jz_if (jxt_w (jxw_and (jxt_p (jt_cmp (or_in hX) (je_var 7) (je_l (jl_d (ja_cons je_int (ja_cons je_int ja_nil)))))) (jxw_and1 (jxt_cmp or_gt (jx_len T.n_len (jx_h (jh_var 6))) (jx_e je_int)))))
  (jz_one (jz_do (jx_lm0 PySem.F.slot_list_pop PySem.F.type_list_pop mt_pop lm_pop (jx_h (jh_var 6)))))
  jz_nil) (jz_cons (jz_if (jxt_p (jt_cmp (or_in hX) (je_var 7) (je_l (jl_d (ja_cons je_int (ja_cons je_int ja_nil))))))
  (jz_one (jz_do (jx_lm0 PySem.F.slot_list_reverse PySem.F.type_list_reverse mt_reverse lm_rev (jx_h (jh_var 6)))))
  jz_nil) (jz_cons (jz_if (jxt_w (jxw_and (jxt_p (jt_cmp (or_eq hX) (je_var 7) je_int)) (jxw_and (jxt_cmp or_gt (jx_len T.n_len (jx_h (jh_var 6))) (jx_e je_int)) (jxw_and1 (jxt_cmp or_lt (jx_e (je_op or_add (je_var 5) je_int)) (jx_len T.n_len (jx_h (jh_var 4))))))))
  (jz_one (jz_do (jx_lm PySem.F.slot_list_insert PySem.F.type_list_insert mt_insV lm_ins (jx_ix hX (jx_h (jh_var 4)) (jx_e (je_op or_add (je_var 5) je_int))) (jxa_cons (jx_e je_int) (jxa_cons (jx_lm0 PySem.F.slot_list_pop PySem.F.type_list_pop mt_pop lm_pop (jx_h (jh_var 6))) jxa_nil)))))
  jz_nil) (jz_cons (jz_if (jxt_p (jt_cmp (or_eq hX) (je_var 7) je_int))
  (jz_one (jz_set 2 hX (jx_lst (jxa_cons (jx_ix hX (jx_h (jh_var 2)) (jx_e je_int)) (jxa_cons (jx_ix hX (jx_h (jh_var 2)) (jx_e je_int)) (jxa_cons (jx_ix hX (jx_h (jh_var 2)) (jx_e je_int)) (jxa_cons (jx_ix hX (jx_h (jh_var 2)) (jx_e je_int)) (jxa_cons (jx_ix hX (jx_h (jh_var 2)) (jx_e je_int)) jxa_nil))))))))
  jz_nil) (jz_cons (jz_if (jxt_w (jxw_and (jxt_p (jt_cmp (or_in hX) (je_var 7) (je_l (jl_d (ja_cons je_int (ja_cons je_int (ja_cons je_int (ja_cons je_int ja_nil)))))))) (jxw_and1 (jxt_cmp or_gt (jx_len T.n_len (jx_ix hX (jx_h (jh_var 2)) (jx_e je_int))) (jx_e je_int)))))
  (jz_cons (jz_set 8 hX (jx_ix hX (jx_ix hX (jx_h (jh_var 2)) (jx_e je_int)) (jx_op or_mod (jx_e (je_ty cr_int T.n_int (by decide +kernel) (ja_cons (je_ix hX (je_var 1) je_int) ja_nil))) (jx_len T.n_len (jx_ix hX (jx_h (jh_var 2)) (jx_e je_int)))))) (jz_cons (jz_if (jxt_p (jt_cmp (or_eq hX) (je_var 7) je_int))
  (jz_one (jz_put hX (jx_e (jc C_law_name hr (ja_cons (je_ix hX (je_var 1) je_int) (ja_cons je_bl ja_nil)))) (jx_h (jh_var 8)) (jx_e je_int)))
  jz_nil) (jz_cons (jz_if (jxt_p (jt_cmp (or_eq hX) (je_var 7) je_int))
  (jz_one (jz_put hX (jx_e (je_op or_mod (je_op or_fd (je_ty cr_int T.n_int (by decide +kernel) (ja_cons (je_ix hX (je_var 1) je_int) ja_nil)) je_int) je_int)) (jx_h (jh_var 8)) (jx_e je_int)))
  jz_nil) (jz_cons (jz_if (jxt_p (jt_cmp (or_eq hX) (je_var 7) je_int))
  (jz_one (jz_do (jx_lm0 PySem.F.slot_list_pop PySem.F.type_list_pop mt_pop lm_pop (jx_ix hX (jx_h (jh_var 2)) (jx_e je_int)))))
  jz_nil) (jz_one (jz_if (jxt_p (jt_cmp (or_eq hX) (je_var 7) je_int))
  (jz_one (jz_do (jx_lm0 PySem.F.slot_list_reverse PySem.F.type_list_reverse mt_reverse lm_rev (jx_ix hX (jx_h (jh_var 2)) (jx_e je_int)))))
  jz_nil))))))
  jz_nil) (jz_cons (jz_if (jxt_w (jxw_and (jxt_p (jt_cmp (or_in hX) (je_var 7) (je_l (jl_d (ja_cons je_int (ja_cons je_int (ja_cons je_int (ja_cons je_int (ja_cons je_int (ja_cons je_int ja_nil)))))))))) (jxw_and1 (jxt_cmp or_gt (jx_len T.n_len (jx_ix hX (jx_h (jh_var 2)) (jx_e je_int))) (jx_e je_int)))))
  (jz_cons (jz_set 9 hX (jx_ix hX (jx_ix hX (jx_h (jh_var 2)) (jx_e je_int)) (jx_op or_mod (jx_e (je_ty cr_int T.n_int (by decide +kernel) (ja_cons (je_ix hX (je_var 1) je_int) ja_nil))) (jx_len T.n_len (jx_ix hX (jx_h (jh_var 2)) (jx_e je_int)))))) (jz_cons (jz_set 10 hX (jx_ix hX (jx_h (jh_var 9)) (jx_e je_int))) (jz_cons (jz_if (jxt_p (jt_cmp (or_eq hX) (je_var 7) je_int))
  (jz_one (jz_put hX (jx_e (jc C_law_name hr (ja_cons (je_ix hX (je_var 1) je_int) (ja_cons je_bl ja_nil)))) (jx_h (jh_var 9)) (jx_e je_int)))
  jz_nil) (jz_cons (jz_if (jxt_w (jxw_and (jxt_p (jt_cmp (or_eq hX) (je_var 7) je_int)) (jxw_and1 (jxt_cmp or_gt (jx_len T.n_len (jx_h (jh_var 10))) (jx_e je_int)))))
  (jz_one (jz_put hX (jx_e (je_var 3)) (jx_h (jh_var 10)) (jx_op or_mod (jx_e (je_ty cr_int T.n_int (by decide +kernel) (ja_cons (je_ix hX (je_var 1) je_int) ja_nil))) (jx_len T.n_len (jx_h (jh_var 10))))))
  jz_nil) (jz_cons (jz_if (jxt_p (jt_cmp (or_eq hX) (je_var 7) je_int))
  (jz_one (jz_do (jx_lm PySem.F.slot_list_append PySem.F.type_list_append mt_append lm_app (jx_h (jh_var 10)) (jxa_cons (jx_e (je_var 3)) jxa_nil))))
  jz_nil) (jz_cons (jz_if (jxt_p (jt_cmp (or_eq hX) (je_var 7) je_int))
  (jz_one (jz_do (jx_lm0 PySem.F.slot_list_reverse PySem.F.type_list_reverse mt_reverse lm_rev (jx_h (jh_var 10)))))
  jz_nil) (jz_cons (jz_if (jxt_p (jt_cmp (or_eq hX) (je_var 7) je_int))
  (jz_one (jz_do (jx_lm0 PySem.F.slot_list_pop PySem.F.type_list_pop mt_pop lm_pop (jx_ix hX (jx_h (jh_var 2)) (jx_e je_int)))))
  jz_nil) (jz_one (jz_if (jxt_p (jt_cmp (or_eq hX) (je_var 7) je_int))
  (jz_one (jz_do (jx_lm0 PySem.F.slot_list_reverse PySem.F.type_list_reverse mt_reverse lm_rev (jx_ix hX (jx_h (jh_var 2)) (jx_e je_int)))))
  jz_nil)))))))))
  jz_nil) (jz_one (jz_ret (jx_h (jh_var 2))))))))))))))))))) gFX_sem
theorem ca_law_changed (T : Tx K w mg cl) (C_law_word : Ca P w K mg base cl 2 "_law_word" ["digit", "many", "thick"] g_law_word) (C_law_name : Ca P w K mg base cl 1 "_law_name" ["digit", "odd"] g_law_name) (C_law_listed : CaX P w K mg base cl 1 "_law_listed" ["parts"] g_law_listed) (C_law_rowsX : CaX P w K mg base cl 1 "_law_rows" ["parts"] g_law_rowsX) {f : Addr} {fd : FuncData} (D : Df K mg "_law_changed" s_law_changed f fd) : CaX P w K mg base cl 3 "_law_changed" ["parts", "row"] g_law_changed :=
  ⟨⟨f, fd, fn_law_changed T C_law_word C_law_name C_law_listed C_law_rowsX D, D.gm, D.fn.kp, D.fn.binds (fun _ _ _ _ _ _ us hl => match us, hl with | [_, _], _ => rfl)⟩⟩
abbrev s_law : Stmt := topS 24
theorem sc_law : FnScope N_law ["script"] (defScope s_law) := ⟨rfl, rfl, rfl, by decide +kernel, rfl, by decide +kernel, by decide +kernel⟩
theorem ok_law (T : Tx K w mg cl) (C_law_parts : Ca P w K mg base cl 5 "_law_parts" ["script"] g_law_parts) (C_law_frozen : Ca P w K mg base cl 1 "_law_frozen" ["parts"] g_law_frozen) (C_law_digits : Ca P w K mg base cl 1 "_law_digits" ["cell", "sizes"] g_law_digits) (C_law_cell : Ca P w K mg base cl 1 "_law_cell" ["script", "k"] g_law_cell) (C_law_listed : CaX P w K mg base cl 1 "_law_listed" ["parts"] g_law_listed) (M_Picture : MaX P w K mg base cl 10 "Picture" ["self", "statics", "frames", "watched", "parted", "objects"] g_Picture_init) (MK_Picture_objects_parted_watched_frames_statics : MaXK P w K mg base cl 10 "Picture" ["self", "statics", "frames", "watched", "parted", "objects"] ["objects", "parted", "watched", "frames", "statics"] [4, 3, 2, 1, 0] g_Picture_init) (C_law_shows : CaX P w K mg base cl 4 "_law_shows" ["picture", "due"] g_law_shows) (E_Picture_eq : MeX P w K mg base cl 2 "Picture" "__eq__" ["self", "other"] g_Picture_eq) (C_law_frozenX : CaX P w K mg base cl 1 "_law_frozen" ["parts"] g_law_frozenX) (C_law_changed : CaX P w K mg base cl 3 "_law_changed" ["parts", "row"] g_law_changed) {f : Addr} {fd : FuncData} (D : Df K mg "law" s_law f fd) : FnOk P w K mg base (L2.CX P w) 12 f fd ["script"] (spL K) :=
  fn_law (ok_defX D.fn sc_law gFX_len (fun cdv A outer s H E hr hX tk hp =>
  (jz_cons (jz_set 1 hX (jx_e (jc C_law_parts hr (ja_cons (je_var 0) ja_nil)))) (jz_cons (jz_set 2 hX (jx_e (jc C_law_frozen hr (ja_cons (je_var 1) ja_nil)))) (jz_cons (jz_set 3 hX (jx_call C_law_listed tk hr (jxa_cons (jx_e (je_var 1)) jxa_nil))) (jz_cons (jz_set 4 hX (jx_make M_Picture tk hr (jxa_cons (jx_ix hX (jx_h (jh_var 3)) (jx_e je_int)) (jxa_cons (jx_ix hX (jx_h (jh_var 3)) (jx_e je_int)) (jxa_cons (jx_ix hX (jx_h (jh_var 3)) (jx_e je_int)) (jxa_cons (jx_ix hX (jx_h (jh_var 3)) (jx_e je_int)) (jxa_cons (jx_ix hX (jx_h (jh_var 3)) (jx_e je_int)) jxa_nil))))))) (jz_cons (jz_set 5 hX (jx_makeK MK_Picture_objects_parted_watched_frames_statics tk hr (jxk_cons (jx_e (je_ix hX (je_var 2) je_int)) (jxk_cons (jx_e (je_ix hX (je_var 2) je_int)) (jxk_cons (jx_e (je_ix hX (je_var 2) je_int)) (jxk_cons (jx_e (je_ix hX (je_var 2) je_int)) (jxk_cons (jx_e (je_ix hX (je_var 2) je_int)) jxk_nil))))))) (jz_cons (jz_if (jxt_w (jxw_or (jxt_not (jxt_v (jx_call C_law_shows tk hr (jxa_cons (jx_h (jh_var 4)) (jxa_cons (jx_e (je_var 2)) jxa_nil))))) (jxw_or (jxt_not (jxt_v (jx_call C_law_shows tk hr (jxa_cons (jx_h (jh_var 5)) (jxa_cons (jx_e (je_var 2)) jxa_nil))))) (jxw_or1 (jxt_cmp (or_ne hX) (jx_h (jh_var 3)) (jx_e (je_var 1)))))))
  (jz_one (jz_ret (jx_e je_bl)))
  jz_nil) (jz_cons (jz_do (jx_lm PySem.F.slot_list_append PySem.F.type_list_append mt_append lm_app (jx_ix hX (jx_h (jh_var 3)) (jx_e je_int)) (jxa_cons (jx_e je_int) jxa_nil))) (jz_cons (jz_do (jx_lm PySem.F.slot_list_append PySem.F.type_list_append mt_append lm_app (jx_ix hX (jx_h (jh_var 3)) (jx_e je_int)) (jxa_cons (jx_e je_int) jxa_nil))) (jz_cons (jz_forH hp hX (jx_ix hX (jx_h (jh_var 3)) (jx_e je_int)) (jgx_name 6 hX)
  (jz_cons (jz_do (jx_lm PySem.F.slot_list_append PySem.F.type_list_append mt_append lm_app (jx_ix hX (jx_h (jh_var 6)) (jx_e je_int)) (jxa_cons (jx_e je_int) jxa_nil))) (jz_one (jz_do (jx_lm PySem.F.slot_list_append PySem.F.type_list_append mt_append lm_app (jx_ix hX (jx_h (jh_var 6)) (jx_e je_int)) (jxa_cons (jx_e je_int) jxa_nil)))))) (jz_cons (jz_forH hp hX (jx_ix hX (jx_h (jh_var 3)) (jx_e je_int)) (jgx_name 7 hX)
  (jz_one (jz_do (jx_lm PySem.F.slot_list_append PySem.F.type_list_append mt_append lm_app (jx_ix hX (jx_h (jh_var 7)) (jx_e je_int)) (jxa_cons (jx_e je_int) jxa_nil))))) (jz_cons (jz_do (jx_lm PySem.F.slot_list_append PySem.F.type_list_append mt_append lm_app (jx_ix hX (jx_h (jh_var 3)) (jx_e je_int)) (jxa_cons (jx_e (je_l (jl_d (ja_cons je_str (ja_cons je_int (ja_cons (je_l (jl_d (ja_cons je_int ja_nil))) (ja_cons (je_l (jl_d (ja_cons je_int ja_nil))) ja_nil))))))) jxa_nil))) (jz_cons (jz_do (jx_lm PySem.F.slot_list_append PySem.F.type_list_append mt_append lm_app (jx_ix hX (jx_h (jh_var 3)) (jx_e je_int)) (jxa_cons (jx_e (je_l (jl_d (ja_cons je_str (ja_cons (je_l (jl_d (ja_cons je_int ja_nil))) ja_nil))))) jxa_nil))) (jz_cons (jz_do (jx_lm PySem.F.slot_list_append PySem.F.type_list_append mt_append lm_app (jx_ix hX (jx_h (jh_var 3)) (jx_e je_int)) (jxa_cons (jx_e je_int) jxa_nil))) (jz_cons (jz_if (jxt_w (jxw_or (jxt_not (jxt_v (jx_call C_law_shows tk hr (jxa_cons (jx_h (jh_var 4)) (jxa_cons (jx_e (je_var 2)) jxa_nil))))) (jxw_or (jxt_cmp or_isN (jx_eqo E_Picture_eq hr (jx_h (jh_var 4)) (jx_h (jh_var 5))) (jx_e je_bl)) (jxw_or1 (jxt_cmp or_isN (jx_eqo E_Picture_eq hr (jx_h (jh_var 5)) (jx_h (jh_var 4))) (jx_e je_bl))))))
  (jz_one (jz_ret (jx_e je_bl)))
  jz_nil) (jz_cons (jz_set 8 hX (jx_call C_law_frozenX tk hr (jxa_cons (jx_call C_law_changed tk hr (jxa_cons (jx_e (je_var 1)) (jxa_cons (jx_e (jc C_law_digits hr (ja_cons (jc C_law_cell hr (ja_cons (je_var 0) (ja_cons je_int ja_nil))) (ja_cons (je_l (jl_d (ja_cons je_int (ja_cons je_int (ja_cons je_int (ja_cons je_int (ja_cons je_int ja_nil))))))) ja_nil)))) jxa_nil))) jxa_nil))) (jz_cons (jz_set 9 hX (jx_make M_Picture tk hr (jxa_cons (jx_e (je_ix hX (je_var 8) je_int)) (jxa_cons (jx_e (je_ix hX (je_var 8) je_int)) (jxa_cons (jx_e (je_ix hX (je_var 8) je_int)) (jxa_cons (jx_e (je_ix hX (je_var 8) je_int)) (jxa_cons (jx_e (je_ix hX (je_var 8) je_int)) jxa_nil))))))) (jz_cons (jz_set 10 hX (jx_e (je_cmp (or_eq hX) (je_var 8) (je_var 2)))) (jz_cons (jz_forH hp hX (jx_lst (jxa_cons (jx_eqo E_Picture_eq hr (jx_h (jh_var 4)) (jx_h (jh_var 9))) (jxa_cons (jx_eqo E_Picture_eq hr (jx_h (jh_var 9)) (jx_h (jh_var 4))) (jxa_cons (jx_eqo E_Picture_eq hr (jx_h (jh_var 5)) (jx_h (jh_var 9))) (jxa_cons (jx_eqo E_Picture_eq hr (jx_h (jh_var 9)) (jx_h (jh_var 5))) jxa_nil))))) (jgx_name 11 hX)
  (jz_one (jz_if (jxt_p (jt_w (jw_or (jt_not (jt_v (je_isi (T := "bool") (je_var 11) T.n_isinstance T.n_bool (by decide +kernel)))) (jw_or1 (jt_cmp (or_ne hX) (je_var 11) (je_var 10))))))
  (jz_one (jz_ret (jx_e je_bl)))
  jz_nil))) (jz_one (jz_ret (jx_and (jx_call C_law_shows tk hr (jxa_cons (jx_h (jh_var 9)) (jxa_cons (jx_e (je_var 8)) jxa_nil))) (jx_and (jx_call C_law_shows tk hr (jxa_cons (jx_h (jh_var 5)) (jxa_cons (jx_e (je_var 2)) jxa_nil))) (jx_and (jx_call C_law_shows tk hr (jxa_cons (jx_h (jh_var 4)) (jxa_cons (jx_e (je_var 2)) jxa_nil))) (jx_and1 (jx_cmp or_is (jx_eqo E_Picture_eq hr (jx_h (jh_var 4)) (jx_h (jh_var 4))) (jx_e je_bl))))))))))))))))))))))))))) gFX_sem) law_true
end
theorem all_mk {l : PySem.W.OpenLaw} {w : World} {K : PySem.W.Frag} {h : Heap} {mg : Str → Option Value} {fa : Addr} (X : K.In h) (G : h.Ns mainGlobals mg) (hfa : mg "law" = some (.ref fa))
    {f1 f2 f3 f4 f5 f6 f7 f8 f9 f10 f11 f12 f13 f14 f15 f16 f17 f18 f19 f20 f21 f22 f23 f24 f25 f26 : Addr} {od1 an1 od2 an2 od3 an3 od4 an4 od5 an5 od6 an6 od7 an7 od8 an8 od9 an9 od10 an10 od11 an11 od12 an12 od13 an13 od14 an14 od15 an15 od16 an16 od17 an17 od18 an18 od19 an19 od20 an20 od21 an21 od22 an22 od23 an23 od24 an24 od25 an25 od26 an26 : Option Addr} {sl1 sl2 sl3 sl4 sl5 sl6 sl7 sl8 sl9 sl10 sl11 sl12 sl13 sl14 sl15 sl16 sl17 sl18 sl19 sl20 sl21 sl22 sl23 sl24 sl25 sl26 : Array (Option Value)} {oc1 kV1 dc1 pm1 cd1 ct1 oc2 kV2 dc2 pm2 cd2 ct2 oc3 kV3 dc3 pm3 cd3 ct3 oc4 kV4 dc4 pm4 cd4 ct4 oc5 kV5 dc5 pm5 cd5 ct5 oc6 kV6 dc6 pm6 cd6 ct6 oc7 kV7 dc7 pm7 cd7 ct7 oc8 kV8 dc8 pm8 cd8 ct8 oc9 kV9 dc9 pm9 cd9 ct9 oc10 kV10 dc10 pm10 cd10 ct10 oc11 kV11 dc11 pm11 cd11 ct11 oc12 kV12 dc12 pm12 cd12 ct12 oc13 kV13 dc13 pm13 cd13 ct13 oc14 kV14 dc14 pm14 cd14 ct14 oc15 kV15 dc15 pm15 cd15 ct15 oc16 kV16 dc16 pm16 cd16 ct16 oc17 kV17 dc17 pm17 cd17 ct17 oc18 kV18 dc18 pm18 cd18 ct18 oc19 kV19 dc19 pm19 cd19 ct19 oc20 kV20 dc20 pm20 cd20 ct20 oc21 kV21 dc21 pm21 cd21 ct21 oc22 kV22 dc22 pm22 cd22 ct22 oc23 kV23 dc23 pm23 cd23 ct23 oc24 kV24 dc24 pm24 cd24 ct24 oc25 kV25 dc25 pm25 cd25 ct25 oc26 kV26 dc26 pm26 cd26 ct26 : Value} {K1 : Addr}
    (qa1 : PySem.W.nsIn K mainGlobals "Picture" = some (some (.ref K1))) (qb1 : PySem.W.plainGet K K1 Str.empty = true) (qc1 : PySem.W.hasDictIn K K1 = true) (qd1 : PySem.W.plainOver K K1 = true) (qe1 : PySem.W.findIn K (.ref K1) "__setattr__" = some (some (.builtin "object.__setattr__"))) (qf1 : PySem.W.makesIn K K1 = true) (qg1 : PySem.W.keepIn K (.ref K1) = true)
    (u_frames_1 : PySem.W.findIn K (.ref K1) "frames" = some none)
    (u_objects_1 : PySem.W.findIn K (.ref K1) "objects" = some none)
    (u_parted_1 : PySem.W.findIn K (.ref K1) "parted" = some none)
    (u_statics_1 : PySem.W.findIn K (.ref K1) "statics" = some none)
    (u_watched_1 : PySem.W.findIn K (.ref K1) "watched" = some none)
    (v2 : PySem.W.specialIn K (.builtin "object.__class__") "__get__" = some (some (.builtin "getset_descriptor.__get__"))) (v3 : PySem.W.takesIn K (.builtin "object.__class__") = some true)
    (v1_1 : PySem.W.findIn K (.ref K1) "__class__" = some (some (.builtin "object.__class__"))) (v4_1 : PySem.W.mroIn K K1 (.type "object") = some true)
    (a1 : PySem.W.nsIn K mainGlobals "_law_digits" = some (some (.ref f1)))
    (l1 : K.lookup f1 = some ⟨oc1, od1, .func (PySem.W.fnOf "_law_digits" "_law_digits" (defArgs s_law_digits) (defBody s_law_digits) (defScope s_law_digits) .none kV1 dc1 pm1 an1 cd1 ct1), sl1⟩) (c1 : PySem.W.codeIn K cd1 "_law_digits" = true) (k1 : PySem.W.keepIn K (.ref f1) = true)
    (a2 : PySem.W.nsIn K mainGlobals "_law_cell" = some (some (.ref f2)))
    (l2 : K.lookup f2 = some ⟨oc2, od2, .func (PySem.W.fnOf "_law_cell" "_law_cell" (defArgs s_law_cell) (defBody s_law_cell) (defScope s_law_cell) .none kV2 dc2 pm2 an2 cd2 ct2), sl2⟩) (c2 : PySem.W.codeIn K cd2 "_law_cell" = true) (k2 : PySem.W.keepIn K (.ref f2) = true)
    (a3 : PySem.W.nsIn K mainGlobals "_law_number" = some (some (.ref f3)))
    (l3 : K.lookup f3 = some ⟨oc3, od3, .func (PySem.W.fnOf "_law_number" "_law_number" (defArgs s_law_number) (defBody s_law_number) (defScope s_law_number) .none kV3 dc3 pm3 an3 cd3 ct3), sl3⟩) (c3 : PySem.W.codeIn K cd3 "_law_number" = true) (k3 : PySem.W.keepIn K (.ref f3) = true)
    (a4 : PySem.W.nsIn K mainGlobals "_law_word" = some (some (.ref f4)))
    (l4 : K.lookup f4 = some ⟨oc4, od4, .func (PySem.W.fnOf "_law_word" "_law_word" (defArgs s_law_word) (defBody s_law_word) (defScope s_law_word) .none kV4 dc4 pm4 an4 cd4 ct4), sl4⟩) (c4 : PySem.W.codeIn K cd4 "_law_word" = true) (k4 : PySem.W.keepIn K (.ref f4) = true)
    (a5 : PySem.W.nsIn K mainGlobals "_law_any" = some (some (.ref f5)))
    (l5 : K.lookup f5 = some ⟨oc5, od5, .func (PySem.W.fnOf "_law_any" "_law_any" (defArgs s_law_any) (defBody s_law_any) (defScope s_law_any) .none kV5 dc5 pm5 an5 cd5 ct5), sl5⟩) (c5 : PySem.W.codeIn K cd5 "_law_any" = true) (k5 : PySem.W.keepIn K (.ref f5) = true)
    (a6 : PySem.W.nsIn K mainGlobals "_law_name" = some (some (.ref f6)))
    (l6 : K.lookup f6 = some ⟨oc6, od6, .func (PySem.W.fnOf "_law_name" "_law_name" (defArgs s_law_name) (defBody s_law_name) (defScope s_law_name) .none kV6 dc6 pm6 an6 cd6 ct6), sl6⟩) (c6 : PySem.W.codeIn K cd6 "_law_name" = true) (k6 : PySem.W.keepIn K (.ref f6) = true)
    (a7 : PySem.W.nsIn K mainGlobals "_law_objects" = some (some (.ref f7)))
    (l7 : K.lookup f7 = some ⟨oc7, od7, .func (PySem.W.fnOf "_law_objects" "_law_objects" (defArgs s_law_objects) (defBody s_law_objects) (defScope s_law_objects) .none kV7 dc7 pm7 an7 cd7 ct7), sl7⟩) (c7 : PySem.W.codeIn K cd7 "_law_objects" = true) (k7 : PySem.W.keepIn K (.ref f7) = true)
    (a8 : PySem.W.nsIn K mainGlobals "_law_list" = some (some (.ref f8)))
    (l8 : K.lookup f8 = some ⟨oc8, od8, .func (PySem.W.fnOf "_law_list" "_law_list" (defArgs s_law_list) (defBody s_law_list) (defScope s_law_list) .none kV8 dc8 pm8 an8 cd8 ct8), sl8⟩) (c8 : PySem.W.codeIn K cd8 "_law_list" = true) (k8 : PySem.W.keepIn K (.ref f8) = true)
    (a9 : PySem.W.nsIn K mainGlobals "_law_parts" = some (some (.ref f9)))
    (l9 : K.lookup f9 = some ⟨oc9, od9, .func (PySem.W.fnOf "_law_parts" "_law_parts" (defArgs s_law_parts) (defBody s_law_parts) (defScope s_law_parts) .none kV9 dc9 pm9 an9 cd9 ct9), sl9⟩) (c9 : PySem.W.codeIn K cd9 "_law_parts" = true) (k9 : PySem.W.keepIn K (.ref f9) = true)
    (a10 : PySem.W.nsIn K mainGlobals "_law_frozen" = some (some (.ref f10)))
    (l10 : K.lookup f10 = some ⟨oc10, od10, .func (PySem.W.fnOf "_law_frozen" "_law_frozen" (defArgs s_law_frozen) (defBody s_law_frozen) (defScope s_law_frozen) .none kV10 dc10 pm10 an10 cd10 ct10), sl10⟩) (c10 : PySem.W.codeIn K cd10 "_law_frozen" = true) (k10 : PySem.W.keepIn K (.ref f10) = true)
    (a11 : PySem.W.nsIn K mainGlobals "_law_listed" = some (some (.ref f11)))
    (l11 : K.lookup f11 = some ⟨oc11, od11, .func (PySem.W.fnOf "_law_listed" "_law_listed" (defArgs s_law_listed) (defBody s_law_listed) (defScope s_law_listed) .none kV11 dc11 pm11 an11 cd11 ct11), sl11⟩) (c11 : PySem.W.codeIn K cd11 "_law_listed" = true) (k11 : PySem.W.keepIn K (.ref f11) = true)
    (a12 : PySem.W.nsIn K mainGlobals "frozen" = some (some (.ref f12)))
    (l12 : K.lookup f12 = some ⟨oc12, od12, .func (PySem.W.fnOf "frozen" "frozen" (defArgs s_frozen) (defBody s_frozen) (defScope s_frozen) .none kV12 dc12 pm12 an12 cd12 ct12), sl12⟩) (c12 : PySem.W.codeIn K cd12 "frozen" = true) (k12 : PySem.W.keepIn K (.ref f12) = true)
    (a13 : PySem.W.findIn K (.ref K1) "__init__" = some (some (.ref f13))) (i13 : PySem.W.isFn K (.ref f13) = true)
    (l13 : K.lookup f13 = some ⟨oc13, od13, .func (PySem.W.fnOf "__init__" "Picture.__init__" (defArgs s_Picture_init) (defBody s_Picture_init) (defScope s_Picture_init) .none kV13 dc13 pm13 an13 cd13 ct13), sl13⟩) (c13 : PySem.W.codeIn K cd13 "Picture.__init__" = true) (k13 : PySem.W.keepIn K (.ref f13) = true)
    (a14 : PySem.W.nsIn K mainGlobals "_law_whole" = some (some (.ref f14)))
    (l14 : K.lookup f14 = some ⟨oc14, od14, .func (PySem.W.fnOf "_law_whole" "_law_whole" (defArgs s_law_whole) (defBody s_law_whole) (defScope s_law_whole) .none kV14 dc14 pm14 an14 cd14 ct14), sl14⟩) (c14 : PySem.W.codeIn K cd14 "_law_whole" = true) (k14 : PySem.W.keepIn K (.ref f14) = true)
    (a15 : PySem.W.nsIn K mainGlobals "_law_numbers" = some (some (.ref f15)))
    (l15 : K.lookup f15 = some ⟨oc15, od15, .func (PySem.W.fnOf "_law_numbers" "_law_numbers" (defArgs s_law_numbers) (defBody s_law_numbers) (defScope s_law_numbers) .none kV15 dc15 pm15 an15 cd15 ct15), sl15⟩) (c15 : PySem.W.codeIn K cd15 "_law_numbers" = true) (k15 : PySem.W.keepIn K (.ref f15) = true)
    (a16 : PySem.W.nsIn K mainGlobals "_law_rows" = some (some (.ref f16)))
    (l16 : K.lookup f16 = some ⟨oc16, od16, .func (PySem.W.fnOf "_law_rows" "_law_rows" (defArgs s_law_rows) (defBody s_law_rows) (defScope s_law_rows) .none kV16 dc16 pm16 an16 cd16 ct16), sl16⟩) (c16 : PySem.W.codeIn K cd16 "_law_rows" = true) (k16 : PySem.W.keepIn K (.ref f16) = true)
    (a17 : PySem.W.nsIn K mainGlobals "_law_things" = some (some (.ref f17)))
    (l17 : K.lookup f17 = some ⟨oc17, od17, .func (PySem.W.fnOf "_law_things" "_law_things" (defArgs s_law_things) (defBody s_law_things) (defScope s_law_things) .none kV17 dc17 pm17 an17 cd17 ct17), sl17⟩) (c17 : PySem.W.codeIn K cd17 "_law_things" = true) (k17 : PySem.W.keepIn K (.ref f17) = true)
    (a18 : PySem.W.nsIn K mainGlobals "root_rows" = some (some (.ref f18)))
    (l18 : K.lookup f18 = some ⟨oc18, od18, .func (PySem.W.fnOf "root_rows" "root_rows" (defArgs s_root_rows) (defBody s_root_rows) (defScope s_root_rows) .none kV18 dc18 pm18 an18 cd18 ct18), sl18⟩) (c18 : PySem.W.codeIn K cd18 "root_rows" = true) (k18 : PySem.W.keepIn K (.ref f18) = true)
    (a19 : PySem.W.findIn K (.ref K1) "rows" = some (some (.ref f19))) (i19 : PySem.W.isFn K (.ref f19) = true)
    (l19 : K.lookup f19 = some ⟨oc19, od19, .func (PySem.W.fnOf "rows" "Picture.rows" (defArgs s_Picture_rows) (defBody s_Picture_rows) (defScope s_Picture_rows) .none kV19 dc19 pm19 an19 cd19 ct19), sl19⟩) (c19 : PySem.W.codeIn K cd19 "Picture.rows" = true) (k19 : PySem.W.keepIn K (.ref f19) = true)
    (a20 : PySem.W.nsIn K mainGlobals "_law_shows" = some (some (.ref f20)))
    (l20 : K.lookup f20 = some ⟨oc20, od20, .func (PySem.W.fnOf "_law_shows" "_law_shows" (defArgs s_law_shows) (defBody s_law_shows) (defScope s_law_shows) .none kV20 dc20 pm20 an20 cd20 ct20), sl20⟩) (c20 : PySem.W.codeIn K cd20 "_law_shows" = true) (k20 : PySem.W.keepIn K (.ref f20) = true)
    (a21 : PySem.W.nsIn K mainGlobals "picture_parts" = some (some (.ref f21)))
    (l21 : K.lookup f21 = some ⟨oc21, od21, .func (PySem.W.fnOf "picture_parts" "picture_parts" (defArgs s_picture_parts) (defBody s_picture_parts) (defScope s_picture_parts) .none kV21 dc21 pm21 an21 cd21 ct21), sl21⟩) (c21 : PySem.W.codeIn K cd21 "picture_parts" = true) (k21 : PySem.W.keepIn K (.ref f21) = true)
    (a22 : PySem.W.findIn K (.ref K1) "__eq__" = some (some (.ref f22))) (i22 : PySem.W.isFn K (.ref f22) = true)
    (l22 : K.lookup f22 = some ⟨oc22, od22, .func (PySem.W.fnOf "__eq__" "Picture.__eq__" (defArgs s_Picture_eq) (defBody s_Picture_eq) (defScope s_Picture_eq) .none kV22 dc22 pm22 an22 cd22 ct22), sl22⟩) (c22 : PySem.W.codeIn K cd22 "Picture.__eq__" = true) (k22 : PySem.W.keepIn K (.ref f22) = true)
    (a23 : PySem.W.nsIn K mainGlobals "_law_frozen" = some (some (.ref f23)))
    (l23 : K.lookup f23 = some ⟨oc23, od23, .func (PySem.W.fnOf "_law_frozen" "_law_frozen" (defArgs s_law_frozenX) (defBody s_law_frozenX) (defScope s_law_frozenX) .none kV23 dc23 pm23 an23 cd23 ct23), sl23⟩) (c23 : PySem.W.codeIn K cd23 "_law_frozen" = true) (k23 : PySem.W.keepIn K (.ref f23) = true)
    (a24 : PySem.W.nsIn K mainGlobals "_law_rows" = some (some (.ref f24)))
    (l24 : K.lookup f24 = some ⟨oc24, od24, .func (PySem.W.fnOf "_law_rows" "_law_rows" (defArgs s_law_rowsX) (defBody s_law_rowsX) (defScope s_law_rowsX) .none kV24 dc24 pm24 an24 cd24 ct24), sl24⟩) (c24 : PySem.W.codeIn K cd24 "_law_rows" = true) (k24 : PySem.W.keepIn K (.ref f24) = true)
    (a25 : PySem.W.nsIn K mainGlobals "_law_changed" = some (some (.ref f25)))
    (l25 : K.lookup f25 = some ⟨oc25, od25, .func (PySem.W.fnOf "_law_changed" "_law_changed" (defArgs s_law_changed) (defBody s_law_changed) (defScope s_law_changed) .none kV25 dc25 pm25 an25 cd25 ct25), sl25⟩) (c25 : PySem.W.codeIn K cd25 "_law_changed" = true) (k25 : PySem.W.keepIn K (.ref f25) = true)
    (a26 : PySem.W.nsIn K mainGlobals "law" = some (some (.ref f26)))
    (l26 : K.lookup f26 = some ⟨oc26, od26, .func (PySem.W.fnOf "law" "law" (defArgs s_law) (defBody s_law) (defScope s_law) .none kV26 dc26 pm26 an26 cd26 ct26), sl26⟩) (c26 : PySem.W.codeIn K cd26 "law" = true) (k26 : PySem.W.keepIn K (.ref f26) = true)
    (z0 : PySem.W.nsIn K mainGlobals "bool" = some none)
    (z1 : PySem.W.nsIn K mainGlobals "int" = some none)
    (z2 : PySem.W.nsIn K mainGlobals "isinstance" = some none)
    (z3 : PySem.W.nsIn K mainGlobals "len" = some none)
    (z4 : PySem.W.nsIn K mainGlobals "list" = some none)
    (z5 : PySem.W.nsIn K mainGlobals "range" = some none)
    (z6 : PySem.W.nsIn K mainGlobals "str" = some none)
    (z7 : PySem.W.nsIn K mainGlobals "tuple" = some none)
    : ∃ fd : FuncData, (∀ (s : Shared) (v : Value), BindsTo s fd ⟨[v], []⟩ [("script", v)]) ∧ ∀ base : Heap, K.In base → base.Ns mainGlobals mg → FnOk l.prog w K mg base (L2.CX l.prog w) 12 fa fd ["script"] (spL K) := by
  have e := hfa.symm.trans (PySem.W.mg_of X G a26)
  cases e
  have T : Tx K w mg (fun c => ([("Picture", K1)] : List (Str × Addr)).lookup c) := ⟨trivial, PySem.W.mg_none_of X G z0, PySem.W.mg_none_of X G z1, PySem.W.mg_none_of X G z2, PySem.W.mg_none_of X G z3, PySem.W.mg_none_of X G z4, PySem.W.mg_none_of X G z5, PySem.W.mg_none_of X G z6, PySem.W.mg_none_of X G z7, ⟨fun c hc C e => by rw [List.mem_singleton] at hc; subst hc; have e : some K1 = some C := e; cases e; exact ⟨⟨qb1, qc1, qd1, qe1⟩, u_frames_1⟩⟩, ⟨fun c hc C e => by rw [List.mem_singleton] at hc; subst hc; have e : some K1 = some C := e; cases e; exact ⟨⟨qb1, qc1, qd1, qe1⟩, u_objects_1⟩⟩, ⟨fun c hc C e => by rw [List.mem_singleton] at hc; subst hc; have e : some K1 = some C := e; cases e; exact ⟨⟨qb1, qc1, qd1, qe1⟩, u_parted_1⟩⟩, ⟨fun c hc C e => by rw [List.mem_singleton] at hc; subst hc; have e : some K1 = some C := e; cases e; exact ⟨⟨qb1, qc1, qd1, qe1⟩, u_statics_1⟩⟩, ⟨fun c hc C e => by rw [List.mem_singleton] at hc; subst hc; have e : some K1 = some C := e; cases e; exact ⟨⟨qb1, qc1, qd1, qe1⟩, u_watched_1⟩⟩, ⟨⟨_, PySem.W.mg_of X G qa1, rfl, ⟨qb1, qc1, qd1, qe1⟩, v1_1, v2, v3, v4_1⟩⟩⟩
  have D1 : Df K mg "_law_digits" s_law_digits _ _ := ⟨fun_mk (st := s_law_digits) l1 c1 k1, PySem.W.mg_of X G a1⟩
  have D2 : Df K mg "_law_cell" s_law_cell _ _ := ⟨fun_mk (st := s_law_cell) l2 c2 k2, PySem.W.mg_of X G a2⟩
  have D3 : Df K mg "_law_number" s_law_number _ _ := ⟨fun_mk (st := s_law_number) l3 c3 k3, PySem.W.mg_of X G a3⟩
  have D4 : Df K mg "_law_word" s_law_word _ _ := ⟨fun_mk (st := s_law_word) l4 c4 k4, PySem.W.mg_of X G a4⟩
  have D5 : Df K mg "_law_any" s_law_any _ _ := ⟨fun_mk (st := s_law_any) l5 c5 k5, PySem.W.mg_of X G a5⟩
  have D6 : Df K mg "_law_name" s_law_name _ _ := ⟨fun_mk (st := s_law_name) l6 c6 k6, PySem.W.mg_of X G a6⟩
  have D7 : Df K mg "_law_objects" s_law_objects _ _ := ⟨fun_mk (st := s_law_objects) l7 c7 k7, PySem.W.mg_of X G a7⟩
  have D8 : Df K mg "_law_list" s_law_list _ _ := ⟨fun_mk (st := s_law_list) l8 c8 k8, PySem.W.mg_of X G a8⟩
  have D9 : Df K mg "_law_parts" s_law_parts _ _ := ⟨fun_mk (st := s_law_parts) l9 c9 k9, PySem.W.mg_of X G a9⟩
  have D10 : Df K mg "_law_frozen" s_law_frozen _ _ := ⟨fun_mk (st := s_law_frozen) l10 c10 k10, PySem.W.mg_of X G a10⟩
  have D11 : Df K mg "_law_listed" s_law_listed _ _ := ⟨fun_mk (st := s_law_listed) l11 c11 k11, PySem.W.mg_of X G a11⟩
  have D12 : Df K mg "frozen" s_frozen _ _ := ⟨fun_mk (st := s_frozen) l12 c12 k12, PySem.W.mg_of X G a12⟩
  have D13 := fun_mk (st := s_Picture_init) l13 c13 k13
  have D14 : Df K mg "_law_whole" s_law_whole _ _ := ⟨fun_mk (st := s_law_whole) l14 c14 k14, PySem.W.mg_of X G a14⟩
  have D15 : Df K mg "_law_numbers" s_law_numbers _ _ := ⟨fun_mk (st := s_law_numbers) l15 c15 k15, PySem.W.mg_of X G a15⟩
  have D16 : Df K mg "_law_rows" s_law_rows _ _ := ⟨fun_mk (st := s_law_rows) l16 c16 k16, PySem.W.mg_of X G a16⟩
  have D17 : Df K mg "_law_things" s_law_things _ _ := ⟨fun_mk (st := s_law_things) l17 c17 k17, PySem.W.mg_of X G a17⟩
  have D18 : Df K mg "root_rows" s_root_rows _ _ := ⟨fun_mk (st := s_root_rows) l18 c18 k18, PySem.W.mg_of X G a18⟩
  have D19 := fun_mk (st := s_Picture_rows) l19 c19 k19
  have D20 : Df K mg "_law_shows" s_law_shows _ _ := ⟨fun_mk (st := s_law_shows) l20 c20 k20, PySem.W.mg_of X G a20⟩
  have D21 : Df K mg "picture_parts" s_picture_parts _ _ := ⟨fun_mk (st := s_picture_parts) l21 c21 k21, PySem.W.mg_of X G a21⟩
  have D22 := fun_mk (st := s_Picture_eq) l22 c22 k22
  have D23 : Df K mg "_law_frozen" s_law_frozenX _ _ := ⟨fun_mk (st := s_law_frozenX) l23 c23 k23, PySem.W.mg_of X G a23⟩
  have D24 : Df K mg "_law_rows" s_law_rowsX _ _ := ⟨fun_mk (st := s_law_rowsX) l24 c24 k24, PySem.W.mg_of X G a24⟩
  have D25 : Df K mg "_law_changed" s_law_changed _ _ := ⟨fun_mk (st := s_law_changed) l25 c25 k25, PySem.W.mg_of X G a25⟩
  have D26 : Df K mg "law" s_law _ _ := ⟨fun_mk (st := s_law) l26 c26 k26, PySem.W.mg_of X G a26⟩
  refine ⟨PySem.W.fnOf "law" "law" (defArgs s_law) (defBody s_law) (defScope s_law) .none kV26 dc26 pm26 an26 cd26 ct26, fun s v => .of_eq rfl, fun base _ _ => ?_⟩
  have C_law_digits := ca_law_digits (P := l.prog) (w := w) (base := base) T D1
  have C_law_cell := ca_law_cell (P := l.prog) (w := w) (base := base) T D2
  have C_law_number := ca_law_number (P := l.prog) (w := w) (base := base) T D3
  have C_law_word := ca_law_word (P := l.prog) (w := w) (base := base) T C_law_number D4
  have C_law_any := ca_law_any (P := l.prog) (w := w) (base := base) T C_law_word D5
  have C_law_name := ca_law_name (P := l.prog) (w := w) (base := base) T D6
  have C_law_objects := ca_law_objects (P := l.prog) (w := w) (base := base) T C_law_digits C_law_cell C_law_any C_law_name D7
  have C_law_list := ca_law_list (P := l.prog) (w := w) (base := base) T C_law_digits C_law_any D8
  have C_law_parts := ca_law_parts (P := l.prog) (w := w) (base := base) T C_law_digits C_law_cell C_law_objects C_law_any C_law_name C_law_list D9
  have C_law_frozen := ca_law_frozen (P := l.prog) (w := w) (base := base) T D10
  have C_law_listed := ca_law_listed (P := l.prog) (w := w) (base := base) T D11
  have C_frozen := ca_frozen (P := l.prog) (w := w) (base := base) T D12
  have X13 := fn_Picture_init (P := l.prog) (w := w) (base := base) T C_frozen D13
  have M_Picture : MaX l.prog w K mg base _ 10 "Picture" ["self", "statics", "frames", "watched", "parted", "objects"] g_Picture_init := ⟨⟨_, _, _, ⟨qf1, a13, i13, qg1⟩, X13, PySem.W.mg_of X G qa1, rfl, D13.binds (fun _ _ _ _ _ _ us hl => match us, hl with | [_, _, _, _, _, _], _ => rfl)⟩⟩
  have MK_Picture_objects_parted_watched_frames_statics : MaXK l.prog w K mg base _ 10 "Picture" ["self", "statics", "frames", "watched", "parted", "objects"] ["objects", "parted", "watched", "frames", "statics"] [4, 3, 2, 1, 0] g_Picture_init := ⟨⟨_, _, _, ⟨qf1, a13, i13, qg1⟩, X13, PySem.W.mg_of X G qa1, rfl, (kw_of D13 (fun _ _ _ _ _ _ us ws h1 h2 => match us, ws, h1, h2 with | [_], [_, _, _, _, _], _, _ => rfl))⟩⟩
  have C_law_whole := ca_law_whole (P := l.prog) (w := w) (base := base) T D14
  have C_law_numbers := ca_law_numbers (P := l.prog) (w := w) (base := base) T C_law_whole D15
  have C_law_rows := ca_law_rows (P := l.prog) (w := w) (base := base) T D16
  have C_law_things := ca_law_things (P := l.prog) (w := w) (base := base) T C_law_numbers D17
  have C_root_rows := ca_root_rows (P := l.prog) (w := w) (base := base) T D18
  have X19 := fn_Picture_rows (P := l.prog) (w := w) (base := base) T C_root_rows D19
  have E_Picture_rows : MeX l.prog w K mg base _ 2 "Picture" "rows" ["self"] g_Picture_rows := ⟨⟨_, _, _, ⟨qb1, qc1, qd1, qe1⟩, ⟨a19, i19, k19⟩, X19, rfl, D19.binds (fun _ _ _ _ _ _ us hl => match us, hl with | [_], _ => rfl)⟩⟩
  have C_law_shows := ca_law_shows (P := l.prog) (w := w) (base := base) T C_law_whole C_law_numbers C_law_rows C_law_things E_Picture_rows D20
  have C_picture_parts := ca_picture_parts (P := l.prog) (w := w) (base := base) T D21
  have X22 := fn_Picture_eq (P := l.prog) (w := w) (base := base) T C_picture_parts D22
  have E_Picture_eq : MeX l.prog w K mg base _ 2 "Picture" "__eq__" ["self", "other"] g_Picture_eq := ⟨⟨_, _, _, ⟨qb1, qc1, qd1, qe1⟩, ⟨a22, i22, k22⟩, X22, rfl, D22.binds (fun _ _ _ _ _ _ us hl => match us, hl with | [_, _], _ => rfl)⟩⟩
  have C_law_frozenX := ca_law_frozenX (P := l.prog) (w := w) (base := base) T D23
  have C_law_rowsX := ca_law_rowsX (P := l.prog) (w := w) (base := base) T D24
  have C_law_changed := ca_law_changed (P := l.prog) (w := w) (base := base) T C_law_word C_law_name C_law_listed C_law_rowsX D25
  exact ok_law (P := l.prog) (w := w) (base := base) T C_law_parts C_law_frozen C_law_digits C_law_cell C_law_listed M_Picture MK_Picture_objects_parted_watched_frames_statics C_law_shows E_Picture_eq C_law_frozenX C_law_changed D26
end Lw
open PySem PySem.W PyProof.Rows
set_option maxHeartbeats 0 in
theorem PySem.Challenge.cw_quietbroom_k36_picture_fields_holds : PySem.Challenge.rw_quietbroom_k36_picture_fields.Holds := by
  w_on; o_law; k_head; (case hw => w_witness2)
  k_fill
  refine L2.walk_ofB (l := PySem.Challenge.rw_quietbroom_k36_picture_fields) (n := 63) (k := 12) (x := "script") (CX := fun w => L2.CX (PySem.Challenge.rw_quietbroom_k36_picture_fields).prog w) (sp := fun w => Vf.spL _) rfl (by decide) rfl ⟨rfl, by decide, by decide⟩ (fun w h Y => PySem.W.kIn_of Y) ?F (fun _ _ a ns hl hb _ hS => Vf.spL_start ⟨hl, hb⟩ hS) (fun _ H s e s' z => Vf.cx_false H s e s' z)
  case F =>
    intro w mg fa h KX G hmg
    refine' Lw.all_mk KX G hmg ?qa1 ?qb1 ?qc1 ?qd1 ?qe1 ?qf1 ?qg1 ?u_frames_1 ?u_objects_1 ?u_parted_1 ?u_statics_1 ?u_watched_1 ?v2 ?v3 ?v1_1 ?v4_1 ?a1 ?l1 ?c1 ?k1 ?a2 ?l2 ?c2 ?k2 ?a3 ?l3 ?c3 ?k3 ?a4 ?l4 ?c4 ?k4 ?a5 ?l5 ?c5 ?k5 ?a6 ?l6 ?c6 ?k6 ?a7 ?l7 ?c7 ?k7 ?a8 ?l8 ?c8 ?k8 ?a9 ?l9 ?c9 ?k9 ?a10 ?l10 ?c10 ?k10 ?a11 ?l11 ?c11 ?k11 ?a12 ?l12 ?c12 ?k12 ?a13 ?i13 ?l13 ?c13 ?k13 ?a14 ?l14 ?c14 ?k14 ?a15 ?l15 ?c15 ?k15 ?a16 ?l16 ?c16 ?k16 ?a17 ?l17 ?c17 ?k17 ?a18 ?l18 ?c18 ?k18 ?a19 ?i19 ?l19 ?c19 ?k19 ?a20 ?l20 ?c20 ?k20 ?a21 ?l21 ?c21 ?k21 ?a22 ?i22 ?l22 ?c22 ?k22 ?a23 ?l23 ?c23 ?k23 ?a24 ?l24 ?c24 ?k24 ?a25 ?l25 ?c25 ?k25 ?a26 ?l26 ?c26 ?k26 ?z0 ?z1 ?z2 ?z3 ?z4 ?z5 ?z6 ?z7
    (case qa1 => k_is)
    (case qb1 => k_is)
    (case qc1 => k_is)
    (case qd1 => k_is)
    (case qe1 => k_is)
    (case qf1 => k_is)
    (case qg1 => k_is)
    (case u_frames_1 => k_is)
    (case u_objects_1 => k_is)
    (case u_parted_1 => k_is)
    (case u_statics_1 => k_is)
    (case u_watched_1 => k_is)
    (case v2 => k_is)
    (case v3 => k_is)
    (case v1_1 => k_is)
    (case v4_1 => k_is)
    (case a1 => k_is)
    (case l1 => k_is)
    (case c1 => k_is)
    (case k1 => k_is)
    (case a2 => k_is)
    (case l2 => k_is)
    (case c2 => k_is)
    (case k2 => k_is)
    (case a3 => k_is)
    (case l3 => k_is)
    (case c3 => k_is)
    (case k3 => k_is)
    (case a4 => k_is)
    (case l4 => k_is)
    (case c4 => k_is)
    (case k4 => k_is)
    (case a5 => k_is)
    (case l5 => k_is)
    (case c5 => k_is)
    (case k5 => k_is)
    (case a6 => k_is)
    (case l6 => k_is)
    (case c6 => k_is)
    (case k6 => k_is)
    (case a7 => k_is)
    (case l7 => k_is)
    (case c7 => k_is)
    (case k7 => k_is)
    (case a8 => k_is)
    (case l8 => k_is)
    (case c8 => k_is)
    (case k8 => k_is)
    (case a9 => k_is)
    (case l9 => k_is)
    (case c9 => k_is)
    (case k9 => k_is)
    (case a10 => k_is)
    (case l10 => k_is)
    (case c10 => k_is)
    (case k10 => k_is)
    (case a11 => k_is)
    (case l11 => k_is)
    (case c11 => k_is)
    (case k11 => k_is)
    (case a12 => k_is)
    (case l12 => k_is)
    (case c12 => k_is)
    (case k12 => k_is)
    (case a13 => k_is)
    (case i13 => k_is)
    (case l13 => k_is)
    (case c13 => k_is)
    (case k13 => k_is)
    (case a14 => k_is)
    (case l14 => k_is)
    (case c14 => k_is)
    (case k14 => k_is)
    (case a15 => k_is)
    (case l15 => k_is)
    (case c15 => k_is)
    (case k15 => k_is)
    (case a16 => k_is)
    (case l16 => k_is)
    (case c16 => k_is)
    (case k16 => k_is)
    (case a17 => k_is)
    (case l17 => k_is)
    (case c17 => k_is)
    (case k17 => k_is)
    (case a18 => k_is)
    (case l18 => k_is)
    (case c18 => k_is)
    (case k18 => k_is)
    (case a19 => k_is)
    (case i19 => k_is)
    (case l19 => k_is)
    (case c19 => k_is)
    (case k19 => k_is)
    (case a20 => k_is)
    (case l20 => k_is)
    (case c20 => k_is)
    (case k20 => k_is)
    (case a21 => k_is)
    (case l21 => k_is)
    (case c21 => k_is)
    (case k21 => k_is)
    (case a22 => k_is)
    (case i22 => k_is)
    (case l22 => k_is)
    (case c22 => k_is)
    (case k22 => k_is)
    (case a23 => k_is)
    (case l23 => k_is)
    (case c23 => k_is)
    (case k23 => k_is)
    (case a24 => k_is)
    (case l24 => k_is)
    (case c24 => k_is)
    (case k24 => k_is)
    (case a25 => k_is)
    (case l25 => k_is)
    (case c25 => k_is)
    (case k25 => k_is)
    (case a26 => k_is)
    (case l26 => k_is)
    (case c26 => k_is)
    (case k26 => k_is)
    (case z0 => k_is)
    (case z1 => k_is)
    (case z2 => k_is)
    (case z3 => k_is)
    (case z4 => k_is)
    (case z5 => k_is)
    (case z6 => k_is)
    (case z7 => k_is)
