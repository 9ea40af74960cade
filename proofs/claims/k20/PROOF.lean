import PyProof.Rows.All
import Wide.All
import OpenK.AllK
import Wide.FinOn
import HandS.ForMost
import HandS.IsInst
import HandS.Wide
import HandS.Style
import HandS.TupMul
import HandS.TupAny
import KE.IntBitsLaws
import HandS.Rev
import HandS.Exc
import HandS.TryOnly
import HandS.EndBits
import HandS.RaiseMore
import HandS.ForExc
import HandS.Small
import HandS.Defaults
import HandS.WordsDict
import HandS.More
import HandS.ExcInit
import HandS.ExcField
import HandS.Iter
import KE.GoesEnumKw
import HandS.DictComp
import HandS.HeadHook3
import HandS.Strs
import HandS.SetKeys
import HandS.Star
import HandS.FStr
import HandS.RevTup
import HandS.OwnEq
import HandS.Conv
import PyProof.DictTruth
import HandS.Zip
import KE.DataCmp
import PySem.Challenge.RW_quietbroom_k20_merging
set_option Elab.async false
set_option linter.all false
set_option maxRecDepth 100000
set_option maxHeartbeats 4000000
set_option autoImplicit false
namespace Vf
open PySem L2
/-! conditions that nothing evaluates -/
noncomputable def cif {α : Type} (p : Prop) (a b : α) : α := @ite α p (Classical.propDecidable p) a b
theorem cif_pos {α : Type} {p : Prop} {a b : α} (h : p) : cif p a b = a := @if_pos p (Classical.propDecidable p) h _ a b
theorem cif_neg {α : Type} {p : Prop} {a b : α} (h : ¬ p) : cif p a b = b := @if_neg p (Classical.propDecidable p) h _ a b
noncomputable def cdec (p : Prop) : Bool := @decide p (Classical.propDecidable p)
theorem cdec_eq (p : Prop) [i : Decidable p] : cdec p = decide p := by
  unfold cdec
  congr
/-! data: what a value is worth, as a tree -/
inductive D where
  | non | bl (b : Bool) | int (i : Int) | str (s : Str)
  | lst (xs : List D) | scr (xs : List D) | tup (xs : List D)
  | ins (c : Str) (fs : List Str) (ds : List D)
  | dic (ks : List Key) (ds : List D)
/-- N: may be handed on; B: only to be read here; T: for this expression alone; O: the list of an own name -/
inductive Tg where | N | B | T | O
  deriving DecidableEq
abbrev TD := Tg × D
/-- a value that may be a handle: the number of an object that may change -/
inductive HV where | pu (d : D) | ob (n : Nat)
inductive Mob where
  | lst (xs : List HV) | tup (xs : List HV)
  | ins (c : Str) (fs : List Str) (xs : List HV)
  | dic (ks : List Key) (xs : List HV)
abbrev Tb := List (Option Mob)
inductive Sl where | un | val (t : Tg) (d : D) | own (ds : List D) | han (n : Nat)
structure Ev where
  s : List Sl
  t : Tb
abbrev Ev.put (e : Ev) (i : Nat) (s : Sl) : Ev := ⟨e.s.set i s, e.t⟩
inductive Out where | nx (e : Ev) | rt (r : TD) | bk (e : Ev) | ct (e : Ev) | rth (x : HV) (T : Tb)
abbrev FE := Ev → Option TD
abbrev FA := Ev → Option (List TD)
abbrev FT := Ev → Option Bool
abbrev FS := Ev → Option Out
def isS : D → Bool
  | .non => true | .bl _ => true | .int _ => true | .str _ => true
  | .lst _ => false | .scr _ => false | .tup _ => false | .ins _ _ _ => false | .dic _ _ => false
def vOf : D → V
  | .non => .non | .bl b => .bl b | .int i => .int i | .str s => .str s
  | .lst _ => .non | .scr _ => .non | .tup _ => .non | .ins _ _ _ => .non | .dic _ _ => .non
/-- a scalar may always be handed on -/
def nm : TD → TD
  | (_, .non) => (.N, .non) | (_, .bl b) => (.N, .bl b) | (_, .int i) => (.N, .int i) | (_, .str s) => (.N, .str s)
  | (t, d) => (t, d)
/-- the tag of an item -/
def el : Tg → Tg | .N => .N | .B => .B | .T => .T | .O => .N
/-- the tag of a thing that holds both -/
def mt2 : Tg → Tg → Tg
  | .N, .N => .N
  | .N, .B => .B | .B, .N => .B | .B, .B => .B
  | _, _ => .T
structure Zc where
  K : PySem.W.Frag
  cl : Str → Option Addr
mutual
inductive Rp (Z : Zc) (H : Hp) : V → D → Prop
  | non : Rp Z H .non .non
  | bl (b : Bool) : Rp Z H (.bl b) (.bl b)
  | int (i : Int) : Rp Z H (.int i) (.int i)
  | str (s : Str) : Rp Z H (.str s) (.str s)
  | lst {a : Addr} {xs : List V} {ds : List D} : H a = some (.lst xs) → RpL Z H xs ds → Rp Z H (.ref a) (.lst ds)
  | scr {a : Addr} {xs : List V} {ds : List D} : SqL Z.K H a xs → RpL Z H xs ds → Rp Z H (.ref a) (.scr ds)
  | tup {a : Addr} {xs : List V} {ds : List D} : SqT Z.K H a xs → RpL Z H xs ds → Rp Z H (.ref a) (.tup ds)
  | ins {a C dx : Addr} {c : Str} {fs : List Str} {vs : List V} {ds : List D} : H a = some (.ins C dx (fs.zip vs)) → Z.cl c = some C → vs.length = fs.length → RpL Z H vs ds → Rp Z H (.ref a) (.ins c fs ds)
  | dic {a : Addr} {ks : List Key} {vs : List V} {ds : List D} : Rd H a (.dK (ks.zip vs)) → vs.length = ks.length → RpL Z H vs ds → Rp Z H (.ref a) (.dic ks ds)
inductive RpL (Z : Zc) (H : Hp) : List V → List D → Prop
  | nil : RpL Z H [] []
  | cons {v : V} {vs : List V} {d : D} {ds : List D} : Rp Z H v d → RpL Z H vs ds → RpL Z H (v :: vs) (d :: ds)
end
theorem rd_mono {H H' : Hp} {a : Addr} {u : HO} (e : Same H H') (h : Rd H a u) : Rd H' a u := by
  rcases h with h | ⟨o, h⟩
  · exact .inl (e _ _ h)
  · exact .inr ⟨o, e _ _ h⟩
theorem sqT_mono {K : PySem.W.Frag} {H H' : Hp} {a : Addr} {xs : List V} (e : Same H H') (h : SqT K H a xs) : SqT K H' a xs := by
  rcases h with h | h
  · exact .inl (rd_mono e h)
  · exact .inr h
mutual
theorem Rp.mono {Z : Zc} {H H' : Hp} (e : Same H H') : ∀ {v : V} {d : D}, Rp Z H v d → Rp Z H' v d
  | _, _, .non => .non
  | _, _, .bl b => .bl b
  | _, _, .int i => .int i
  | _, _, .str s => .str s
  | _, _, .lst h r => .lst (e _ _ h) (RpL.mono e r)
  | _, _, .scr h r => .scr (e.seq h) (RpL.mono e r)
  | _, _, .tup h r => .tup (sqT_mono e h) (RpL.mono e r)
  | _, _, .ins h c l r => .ins (e _ _ h) c l (RpL.mono e r)
  | _, _, .dic h l r => .dic (rd_mono e h) l (RpL.mono e r)
theorem RpL.mono {Z : Zc} {H H' : Hp} (e : Same H H') : ∀ {vs : List V} {ds : List D}, RpL Z H vs ds → RpL Z H' vs ds
  | _, _, .nil => .nil
  | _, _, .cons h r => .cons (Rp.mono e h) (RpL.mono e r)
end
section
variable {Z : Zc} {H H' : Hp}
theorem RpL.length : ∀ {vs : List V} {ds : List D}, RpL Z H vs ds → vs.length = ds.length
  | _, _, .nil => rfl
  | _, _, .cons _ r => congrArg Nat.succ r.length
theorem RpL.get : ∀ {vs : List V} {ds : List D} {i : Nat} {d : D}, RpL Z H vs ds → ds[i]? = some d → ∃ v, vs[i]? = some v ∧ Rp Z H v d
  | _, _, _, _, .nil, e => by simp at e
  | _, _, 0, _, .cons h r, e => by simp at e; subst e; exact ⟨_, rfl, h⟩
  | _, _, i + 1, _, .cons h r, e => by simpa using RpL.get (i := i) r (by simpa using e)
theorem RpL.append : ∀ {vs us : List V} {ds es : List D}, RpL Z H vs ds → RpL Z H us es → RpL Z H (vs ++ us) (ds ++ es)
  | _, _, _, _, .nil, s => s
  | _, _, _, _, .cons h r, s => .cons h (r.append s)
theorem RpL.take : ∀ {vs : List V} {ds : List D} (n : Nat), RpL Z H vs ds → RpL Z H (vs.take n) (ds.take n)
  | _, _, 0, _ => .nil
  | _, _, _ + 1, .nil => .nil
  | _, _, n + 1, .cons h r => .cons h (r.take n)
theorem RpL.drop : ∀ {vs : List V} {ds : List D} (n : Nat), RpL Z H vs ds → RpL Z H (vs.drop n) (ds.drop n)
  | _, _, 0, r => r
  | _, _, _ + 1, .nil => .nil
  | _, _, n + 1, .cons _ r => r.drop n
theorem RpL.set : ∀ {vs : List V} {ds : List D} {v : V} {d : D} (n : Nat), RpL Z H vs ds → Rp Z H v d → RpL Z H (vs.set n v) (ds.set n d)
  | _, _, _, _, _, .nil, _ => .nil
  | _, _, _, _, 0, .cons _ r, q => .cons q r
  | _, _, _, _, n + 1, .cons h r, q => .cons h (r.set n q)
theorem RpL.rep : ∀ {vs : List V} {ds : List D} (n : Nat), RpL Z H vs ds → RpL Z H (List.replicate n vs).flatten (List.replicate n ds).flatten
  | _, _, 0, _ => .nil
  | _, _, n + 1, r => by
    rw [List.replicate_succ, List.replicate_succ, List.flatten_cons, List.flatten_cons]
    exact r.append (r.rep n)
theorem rp_val {v : V} {d : D} (hs : isS d = true) (h : Rp Z H v d) : v = vOf d := by
  cases h <;> first | rfl | exact absurd hs (by simp [isS])
theorem rp_of {d : D} (hs : isS d = true) : Rp Z H (vOf d) d := by
  cases d <;> first | (constructor; done) | exact absurd hs (by simp [isS])
theorem rpL_vals : ∀ {vs : List V} {ds : List D}, RpL Z H vs ds → ds.all isS = true → vs = ds.map vOf
  | _, _, .nil, _ => rfl
  | _, _, .cons h r, e => by
    simp only [List.all_cons, Bool.and_eq_true] at e
    rw [List.map_cons, rp_val e.1 h, rpL_vals r e.2]
end
/-! worlds -/
structure Wd where
  N : Hp
  B : Hp
  H : Hp
  m : List Addr
structure Wf (w : Wd) : Prop where
  nb : Same w.N w.B
  bh : Same w.B w.H
theorem Wf.nh {w : Wd} (h : Wf w) : Same w.N w.H := h.nb.trans h.bh
structure Gr (w w' : Wd) : Prop where
  wf : Wf w'
  n : Same w.N w'.N
  b : Same w.B w'.B
  h : Same w.H w'.H
  fn : ∀ x, w'.N x ≠ none → w.N x ≠ none ∨ w.H x = none
  fb : ∀ x, w'.B x ≠ none → w.B x ≠ none ∨ w.H x = none
  m : w'.m = w.m
/-- growth of a statement: own lists may change -/
structure Gs (w w' : Wd) : Prop where
  wf : Wf w'
  n : Same w.N w'.N
  b : Same w.B w'.B
  fn : ∀ x, w'.N x ≠ none → w.N x ≠ none ∨ w.B x = none
  m : w.m <+: w'.m
  mf : ∀ a ∈ w'.m, a ∈ w.m ∨ w.B a = none
theorem Gr.refl {w : Wd} (h : Wf w) : Gr w w := ⟨h, .refl _, .refl _, .refl _, fun _ q => .inl q, fun _ q => .inl q, rfl⟩
theorem Gs.refl {w : Wd} (h : Wf w) : Gs w w := ⟨h, .refl _, .refl _, fun _ q => .inl q, List.prefix_refl _, fun _ q => .inl q⟩
theorem Gr.trans {w w1 w2 : Wd} (a : Gr w w1) (b : Gr w1 w2) : Gr w w2 where
  wf := b.wf
  n := a.n.trans b.n
  b := a.b.trans b.b
  h := a.h.trans b.h
  fn := fun x q => (b.fn x q).elim (a.fn x) fun z => .inr (a.h.free z)
  fb := fun x q => (b.fb x q).elim (a.fb x) fun z => .inr (a.h.free z)
  m := b.m.trans a.m
theorem Gs.trans {w w1 w2 : Wd} (a : Gs w w1) (b : Gs w1 w2) : Gs w w2 where
  wf := b.wf
  n := a.n.trans b.n
  b := a.b.trans b.b
  fn := fun x q => (b.fn x q).elim (a.fn x) fun z => .inr (a.b.free z)
  m := a.m.trans b.m
  mf := fun x q => (b.mf x q).elim (a.mf x) fun z => .inr (a.b.free z)
theorem Gr.gs {w w' : Wd} (hw : Wf w) (g : Gr w w') : Gs w w' := ⟨g.wf, g.n, g.b, fun x q => (g.fn x q).imp id fun z => hw.bh.free z, by rw [g.m]; exact List.prefix_refl _, fun x q => .inl (by rw [← g.m]; exact q)⟩
theorem Gs.gr {N H : Hp} {m : List Addr} {w' : Wd} (g : Gs ⟨N, H, H, m⟩ w') : Gr ⟨N, H, H, m⟩ ⟨w'.N, w'.B, w'.H, m⟩ := ⟨⟨g.wf.nb, g.wf.bh⟩, g.n, g.b, g.b.trans g.wf.bh, g.fn, fun x _ => by
  show H x ≠ none ∨ H x = none
  cases H x with
  | none => exact .inr rfl
  | some o => exact .inl (fun z => nomatch z), rfl⟩
def RV (Z : Zc) (w : Wd) : TD → V → Prop
  | (.N, d), v => Rp Z w.N v d
  | (.B, d), v => Rp Z w.B v d
  | (.T, d), v => Rp Z w.H v d
  | (.O, d), v => ∃ p vs ds, v = .ref p ∧ d = .lst ds ∧ w.H p = some (.lst vs) ∧ w.B p = none ∧ RpL Z w.N vs ds
theorem own_mono {w w' : Wd} (g : Gr w w') {p : Addr} {o : HO} (h : w.H p = some o) (b : w.B p = none) : w'.B p = none := by
  cases q : w'.B p with
  | none => rfl
  | some u =>
    rcases g.fb p (by rw [q]; exact fun z => nomatch z) with z | z
    · exact (z b).elim
    · rw [h] at z
      cases z
def RVs (Z : Zc) (w : Wd) : List TD → List V → Prop
  | [], [] => True
  | r :: rs, v :: vs => RV Z w r v ∧ RVs Z w rs vs
  | _, _ => False
theorem RV.mono {Z : Zc} {w w' : Wd} (g : Gr w w') : ∀ {r : TD} {v : V}, RV Z w r v → RV Z w' r v
  | (.N, _), _, h => Rp.mono g.n h
  | (.B, _), _, h => Rp.mono g.b h
  | (.T, _), _, h => Rp.mono g.h h
  | (.O, _), _, ⟨p, vs, ds, e, e2, h, b, r⟩ => ⟨p, vs, ds, e, e2, g.h _ _ h, own_mono g h b, RpL.mono g.n r⟩
theorem RVs.mono {Z : Zc} {w w' : Wd} (g : Gr w w') : ∀ {rs : List TD} {vs : List V}, RVs Z w rs vs → RVs Z w' rs vs
  | [], [], _ => trivial
  | _ :: _, _ :: _, ⟨h, r⟩ => ⟨RV.mono g h, RVs.mono g r⟩
  | [], _ :: _, h => h.elim
  | _ :: _, [], h => h.elim
theorem RVs.length {Z : Zc} {w : Wd} : ∀ {rs : List TD} {vs : List V}, RVs Z w rs vs → vs.length = rs.length
  | [], [], _ => rfl
  | _ :: _, _ :: _, ⟨_, r⟩ => congrArg Nat.succ r.length
  | [], _ :: _, h => h.elim
  | _ :: _, [], h => h.elim
/-- any value is at least readable in the whole heap -/
theorem RV.top {Z : Zc} {w : Wd} (hw : Wf w) : ∀ {r : TD} {v : V}, RV Z w r v → Rp Z w.H v r.2
  | (.N, _), _, h => Rp.mono hw.nh h
  | (.B, _), _, h => Rp.mono hw.bh h
  | (.T, _), _, h => h
  | (.O, _), _, ⟨p, vs, ds, e, e2, h, b, r⟩ => by
    cases e
    cases e2
    exact .lst h (RpL.mono hw.nh r)
theorem RV.sc {Z : Zc} {w : Wd} {t u : Tg} {d : D} {v : V} (hw : Wf w) (hs : isS d = true) (hu : u ≠ .O) (h : RV Z w (t, d) v) : RV Z w (u, d) v := by
  have e := rp_val hs (h.top hw)
  subst e
  cases u with
  | O => exact (hu rfl).elim
  | N => exact rp_of (Z := Z) (H := w.N) hs
  | B => exact rp_of (Z := Z) (H := w.B) hs
  | T => exact rp_of (Z := Z) (H := w.H) hs
theorem RV.nm {Z : Zc} {w : Wd} (hw : Wf w) : ∀ {r : TD} {v : V}, RV Z w r v → RV Z w (Vf.nm r) v
  | (t, .non), _, h => h.sc hw rfl (by decide)
  | (t, .bl _), _, h => h.sc hw rfl (by decide)
  | (t, .int _), _, h => h.sc hw rfl (by decide)
  | (t, .str _), _, h => h.sc hw rfl (by decide)
  | (t, .lst _), _, h => h
  | (t, .scr _), _, h => h
  | (t, .tup _), _, h => h
  | (t, .ins _ _ _), _, h => h
  | (t, .dic _ _), _, h => h
/-- the heap that a tag reads -/
def Wd.rd (w : Wd) : Tg → Hp
  | .N => w.N | .B => w.B | .T => w.H | .O => w.H
theorem RV.rp {Z : Zc} {w : Wd} {t : Tg} {d : D} {v : V} (ht : t ≠ .O) (h : RV Z w (t, d) v) : Rp Z (w.rd t) v d := by
  cases t <;> first | exact h | exact (ht rfl).elim
theorem RV.of {Z : Zc} {w : Wd} {t : Tg} {d : D} {v : V} (ht : t ≠ .O) (h : Rp Z (w.rd t) v d) : RV Z w (t, d) v := by
  cases t <;> first | exact h | exact (ht rfl).elim
theorem el_ne (t : Tg) : el t ≠ .O := by cases t <;> decide
theorem rd_le {w : Wd} (hw : Wf w) : ∀ t, Same (w.rd t) w.H
  | .N => hw.nh
  | .B => hw.bh
  | .T => .refl _
  | .O => .refl _
/-- a list's parts: where it stands, its items by the tag of an item -/
theorem RV.lst {Z : Zc} {w : Wd} (hw : Wf w) : ∀ {t : Tg} {ds : List D} {v : V}, RV Z w (t, .lst ds) v → ∃ p vs, v = .ref p ∧ w.H p = some (.lst vs) ∧ RpL Z (w.rd (el t)) vs ds
  | .N, _, _, h => by cases h with | lst h r => exact ⟨_, _, rfl, hw.nh _ _ h, r⟩
  | .B, _, _, h => by cases h with | lst h r => exact ⟨_, _, rfl, hw.bh _ _ h, r⟩
  | .T, _, _, h => by cases h with | lst h r => exact ⟨_, _, rfl, h, r⟩
  | .O, _, _, ⟨p, vs, ds, e, e2, h, b, r⟩ => by
    cases e2
    exact ⟨p, vs, e, h, r⟩
theorem RV.scr {Z : Zc} {w : Wd} (hw : Wf w) : ∀ {t : Tg} {ds : List D} {v : V}, RV Z w (t, .scr ds) v → ∃ p vs, v = .ref p ∧ SqL Z.K w.H p vs ∧ RpL Z (w.rd (el t)) vs ds
  | .N, _, _, h => by cases h with | scr h r => exact ⟨_, _, rfl, hw.nh.seq h, r⟩
  | .B, _, _, h => by cases h with | scr h r => exact ⟨_, _, rfl, hw.bh.seq h, r⟩
  | .T, _, _, h => by cases h with | scr h r => exact ⟨_, _, rfl, h, r⟩
  | .O, _, _, ⟨p, vs, ds, e, e2, h, b, r⟩ => nomatch e2
theorem RV.tup {Z : Zc} {w : Wd} (hw : Wf w) : ∀ {t : Tg} {ds : List D} {v : V}, RV Z w (t, .tup ds) v → ∃ p vs, v = .ref p ∧ SqT Z.K w.H p vs ∧ RpL Z (w.rd (el t)) vs ds
  | .N, _, _, h => by cases h with | tup h r => exact ⟨_, _, rfl, sqT_mono hw.nh h, r⟩
  | .B, _, _, h => by cases h with | tup h r => exact ⟨_, _, rfl, sqT_mono hw.bh h, r⟩
  | .T, _, _, h => by cases h with | tup h r => exact ⟨_, _, rfl, h, r⟩
  | .O, _, _, ⟨p, vs, ds, e, e2, h, b, r⟩ => nomatch e2
/-! a new object at p: it goes to the heaps that its tag says -/
def Wd.put (w : Wd) (t : Tg) (p : Addr) (o : HO) : Wd := match t with
  | .N => ⟨upd w.N p o, upd w.B p o, upd w.H p o, w.m⟩
  | .B => ⟨w.N, upd w.B p o, upd w.H p o, w.m⟩
  | _ => ⟨w.N, w.B, upd w.H p o, w.m⟩
theorem put_H {w : Wd} {t : Tg} {p : Addr} {o : HO} : (w.put t p o).H = upd w.H p o := by cases t <;> rfl
theorem same_up {H : Hp} {p : Addr} {o : HO} (h : H p = none) : Same H (upd H p o) := fun b x e => by
  rw [upd_ne (ne_of_none e h)]
  exact e
theorem same_up2 {H H' : Hp} {p : Addr} {o : HO} (h : Same H H') : Same (upd H p o) (upd H' p o) := fun b x e => by
  by_cases hb : b = p
  · subst hb
    rw [upd_same] at e ⊢
    exact e
  · rw [upd_ne hb] at e ⊢
    exact h _ _ e
theorem same_up1 {H H' : Hp} {p : Addr} {o : HO} (h : Same H H') (n : H p = none) : Same H (upd H' p o) := fun b x e => by
  rw [upd_ne (ne_of_none e n)]
  exact h _ _ e
theorem upd_some {H : Hp} {p x : Addr} {o : HO} (h : upd H p o x ≠ none) : H x ≠ none ∨ x = p := by
  by_cases hb : x = p
  · exact .inr hb
  · rw [upd_ne hb] at h
    exact .inl h
theorem Gr.put {w : Wd} (hw : Wf w) {t : Tg} {p : Addr} {o : HO} (hp : w.H p = none) : Gr w (w.put t p o) := by
  have hB := hw.bh.free hp
  have hN := hw.nb.free hB
  cases t with
  | N => exact ⟨⟨same_up2 hw.nb, same_up2 hw.bh⟩, same_up hN, same_up hB, same_up hp, fun x q => (upd_some q).imp id fun e => by rw [e]; exact hp, fun x q => (upd_some q).imp id fun e => by rw [e]; exact hp, rfl⟩
  | B => exact ⟨⟨same_up1 hw.nb hN, same_up2 hw.bh⟩, .refl _, same_up hB, same_up hp, fun x q => .inl q, fun x q => (upd_some q).imp id fun e => by rw [e]; exact hp, rfl⟩
  | T => exact ⟨⟨hw.nb, same_up1 hw.bh hB⟩, .refl _, .refl _, same_up hp, fun x q => .inl q, fun x q => .inl q, rfl⟩
  | O => exact ⟨⟨hw.nb, same_up1 hw.bh hB⟩, .refl _, .refl _, same_up hp, fun x q => .inl q, fun x q => .inl q, rfl⟩
theorem put_at {w : Wd} {t : Tg} {p : Addr} {o : HO} (ht : t ≠ .O) : (w.put t p o).rd t p = some o := by
  cases t with
  | N => exact upd_same
  | B => exact upd_same
  | T => exact upd_same
  | O => exact (ht rfl).elim
theorem rd_gr {w w' : Wd} (g : Gr w w') : ∀ t, Same (w.rd t) (w'.rd t)
  | .N => g.n
  | .B => g.b
  | .T => g.h
  | .O => g.h
/-- a new list, a new tuple, of items by a tag -/
theorem new_lst {Z : Zc} {w : Wd} (hw : Wf w) {t : Tg} (ht : t ≠ .O) {p : Addr} {vs : List V} {ds : List D} (hp : w.H p = none) (r : RpL Z (w.rd t) vs ds) : RV Z (w.put t p (.lst vs)) (t, .lst ds) (.ref p) :=
  RV.of ht (.lst (put_at ht) (RpL.mono (rd_gr (Gr.put hw hp) t) r))
theorem new_tup {Z : Zc} {w : Wd} (hw : Wf w) {t : Tg} (ht : t ≠ .O) {p : Addr} {vs : List V} {ds : List D} (hp : w.H p = none) (r : RpL Z (w.rd t) vs ds) : RV Z (w.put t p (.tup vs)) (t, .tup ds) (.ref p) :=
  RV.of ht (.tup (.of (put_at ht)) (RpL.mono (rd_gr (Gr.put hw hp) t) r))
theorem adopt {Z : Zc} {w w' : Wd} (g : Gr w w') {t : Tg} (ht : t ≠ .O) {p : Addr} {vs : List V} {ds : List D} (hp : w.H p = none) (h : w'.H p = some (.lst vs)) (hb : w'.B p = none) (r : RpL Z (w'.rd t) vs ds) :
    ∃ w2, Gr w w2 ∧ w2.H = w'.H ∧ RV Z w2 (t, .lst ds) (.ref p) := by
  have hn : w'.N p = none := g.wf.nb.free hb
  have sh : Same (upd w'.B p (.lst vs)) w'.H := fun b x e => by
    by_cases q : b = p
    · subst q
      rw [upd_same] at e
      rw [h]
      exact e
    · rw [upd_ne q] at e
      exact g.wf.bh _ _ e
  cases t with
  | O => exact (ht rfl).elim
  | T => exact ⟨w', g, rfl, Rp.lst h r⟩
  | N => exact ⟨⟨upd w'.N p (.lst vs), upd w'.B p (.lst vs), w'.H, w'.m⟩, ⟨⟨same_up2 g.wf.nb, sh⟩, same_up1 g.n (g.n.free hn), same_up1 g.b (g.b.free hb), g.h,
      fun x q => (upd_some q).elim (g.fn x) fun e => .inr (by rw [e]; exact hp), fun x q => (upd_some q).elim (g.fb x) fun e => .inr (by rw [e]; exact hp), g.m⟩, rfl, Rp.lst upd_same (RpL.mono (same_up hn) r)⟩
  | B => exact ⟨⟨w'.N, upd w'.B p (.lst vs), w'.H, w'.m⟩, ⟨⟨same_up1 g.wf.nb hn, sh⟩, g.n, same_up1 g.b (g.b.free hb), g.h,
      g.fn, fun x q => (upd_some q).elim (g.fb x) fun e => .inr (by rw [e]; exact hp), g.m⟩, rfl, Rp.lst upd_same (RpL.mono (same_up hb) r)⟩
theorem mt2_ne (t u : Tg) : mt2 t u ≠ .O := by cases t <;> cases u <;> decide
theorem mt2_l {w : Wd} (hw : Wf w) (t u : Tg) : Same (w.rd (el t)) (w.rd (mt2 (el t) u)) := by
  cases t <;> cases u <;> first | exact .refl _ | exact hw.nb | exact hw.bh | exact hw.nh
theorem mt2_r {w : Wd} (hw : Wf w) (t u : Tg) : Same (w.rd (el u)) (w.rd (mt2 t (el u))) := by
  cases t <;> cases u <;> first | exact .refl _ | exact hw.nb | exact hw.bh | exact hw.nh
/-! objects that may change -/
def HvOk (Z : Zc) (w : Wd) (v : V) : HV → Prop
  | .pu d => Rp Z w.N v d
  | .ob n => ∃ a, v = .ref a ∧ w.m[n]? = some a
def HvsOk (Z : Zc) (w : Wd) : List V → List HV → Prop
  | [], [] => True
  | v :: vs, x :: xs => HvOk Z w v x ∧ HvsOk Z w vs xs
  | _, _ => False
def MobOk (Z : Zc) (w : Wd) (a : Addr) : Mob → Prop
  | .lst xs => ∃ vs, w.H a = some (.lst vs) ∧ HvsOk Z w vs xs
  | .tup xs => ∃ vs, w.H a = some (.tup vs) ∧ HvsOk Z w vs xs
  | .ins c fs xs => ∃ C dx vs, w.H a = some (.ins C dx (fs.zip vs)) ∧ Z.cl c = some C ∧ vs.length = fs.length ∧ HvsOk Z w vs xs
  | .dic ks xs => ∃ vs, w.H a = some (.dK (ks.zip vs)) ∧ vs.length = ks.length ∧ HvsOk Z w vs xs
structure TbOk (Z : Zc) (T : Tb) (w : Wd) : Prop where
  len : T.length = w.m.length
  nd : w.m.Nodup
  hh : ∀ a ∈ w.m, w.H a ≠ none
  at_ : ∀ (n : Nat) (M : Mob), T[n]? = some (some M) → ∃ a, w.m[n]? = some a ∧ w.B a = none ∧ MobOk Z w a M
theorem HvOk.mono {Z : Zc} {w w' : Wd} (hn : Same w.N w'.N) (hm : w.m <+: w'.m) {v : V} : ∀ {x : HV}, HvOk Z w v x → HvOk Z w' v x
  | .pu _, h => Rp.mono hn h
  | .ob _, ⟨a, e, h⟩ => ⟨a, e, by
    obtain ⟨l, hl⟩ := hm
    rw [← hl, List.getElem?_append_left (List.getElem?_eq_some_iff.mp h).1]
    exact h⟩
theorem HvsOk.mono {Z : Zc} {w w' : Wd} (hn : Same w.N w'.N) (hm : w.m <+: w'.m) : ∀ {vs : List V} {xs : List HV}, HvsOk Z w vs xs → HvsOk Z w' vs xs
  | [], [], _ => trivial
  | _ :: _, _ :: _, ⟨h, r⟩ => ⟨h.mono hn hm, r.mono hn hm⟩
  | [], _ :: _, h => h.elim
  | _ :: _, [], h => h.elim
/-- an object keeps its worth where its place in the heap does -/
theorem MobOk.mono {Z : Zc} {w w' : Wd} (hn : Same w.N w'.N) (hm : w.m <+: w'.m) {a : Addr} (hh : ∀ o, w.H a = some o → w'.H a = some o) : ∀ {M : Mob}, MobOk Z w a M → MobOk Z w' a M
  | .lst _, ⟨vs, h, r⟩ => ⟨vs, hh _ h, r.mono hn hm⟩
  | .tup _, ⟨vs, h, r⟩ => ⟨vs, hh _ h, r.mono hn hm⟩
  | .ins _ _ _, ⟨C, dx, vs, h, c, l, r⟩ => ⟨C, dx, vs, hh _ h, c, l, r.mono hn hm⟩
  | .dic _ _, ⟨vs, h, l, r⟩ => ⟨vs, hh _ h, l, r.mono hn hm⟩
theorem TbOk.mono {Z : Zc} {T : Tb} {w w' : Wd} (g : Gr w w') (h : TbOk Z T w) : TbOk Z T w' where
  len := by rw [g.m]; exact h.len
  nd := by rw [g.m]; exact h.nd
  hh := fun a ha e => h.hh a (by rw [← g.m]; exact ha) (g.h.free e)
  at_ := fun n M e => by
    obtain ⟨a, h1, h2, h3⟩ := h.at_ n M e
    have hb : w'.B a = none := by
      have hH : ∃ o, w.H a = some o := by
        cases M with
        | lst _ => obtain ⟨vs, q, _⟩ := h3; exact ⟨_, q⟩
        | tup _ => obtain ⟨vs, q, _⟩ := h3; exact ⟨_, q⟩
        | ins _ _ _ => obtain ⟨C, dx, vs, q, _⟩ := h3; exact ⟨_, q⟩
        | dic _ _ => obtain ⟨vs, q, _⟩ := h3; exact ⟨_, q⟩
      obtain ⟨o, q⟩ := hH
      exact own_mono g q h2
    exact ⟨a, by rw [g.m]; exact h1, hb, h3.mono g.n (by rw [g.m]; exact List.prefix_refl _) fun o q => g.h _ _ q⟩
/-- .. where a list that is not of the table changes -/
theorem TbOk.away {Z : Zc} {T : Tb} {w w' : Wd} (h : TbOk Z T w) (hn : Same w.N w'.N) (hm : w'.m = w.m) (hb : ∀ a ∈ w.m, w.B a = none → w'.B a = none) (hh : ∀ a ∈ w.m, ∀ o, w.H a = some o → w'.H a = some o) : TbOk Z T w' where
  len := by rw [hm]; exact h.len
  nd := by rw [hm]; exact h.nd
  hh := fun a ha e => by
    rw [hm] at ha
    cases q : w.H a with
    | none => exact h.hh a ha q
    | some o => rw [hh a ha o q] at e; cases e
  at_ := fun n M e => by
    obtain ⟨a, h1, h2, h3⟩ := h.at_ n M e
    have ha := List.mem_of_getElem? h1
    exact ⟨a, by rw [hm]; exact h1, hb a ha h2, h3.mono hn (by rw [hm]; exact List.prefix_refl _) (hh a ha)⟩
/-! frames -/
def SlOk (Z : Zc) (w : Wd) (o : Option V) : Sl → Prop
  | .un => True
  | .val t d => ∃ v, o = some v ∧ (t = .N ∧ Rp Z w.N v d ∨ t = .B ∧ Rp Z w.B v d)
  | .own ds => ∃ p vs, o = some (.ref p) ∧ w.H p = some (.lst vs) ∧ w.B p = none ∧ p ∉ w.m ∧ RpL Z w.N vs ds
  | .han n => ∃ a, o = some (.ref a) ∧ w.m[n]? = some a
structure Wok (Z : Zc) (env : Ev) (σ : L2.St) (w : Wd) : Prop where
  wf : Wf w
  len : σ.length = env.s.length
  sl : ∀ (i : Nat) (s : Sl), env.s[i]? = some s → ∃ o : Option V, σ[i]? = some o ∧ SlOk Z w o s
  dj : ∀ (i j : Nat) (ds es : List D) (p : Addr), i ≠ j → env.s[i]? = some (.own ds) → env.s[j]? = some (.own es) → σ[i]? = some (some (.ref p)) → σ[j]? ≠ some (some (.ref p))
  tb : TbOk Z env.t w
theorem SlOk.mono {Z : Zc} {w w' : Wd} (g : Gr w w') {o : Option V} : ∀ {s : Sl}, SlOk Z w o s → SlOk Z w' o s
  | .un, _ => trivial
  | .val _ _, ⟨v, e, h⟩ => ⟨v, e, h.imp (fun ⟨a, b⟩ => ⟨a, Rp.mono g.n b⟩) fun ⟨a, b⟩ => ⟨a, Rp.mono g.b b⟩⟩
  | .own _, ⟨p, vs, e, h, b, hm, r⟩ => ⟨p, vs, e, g.h _ _ h, own_mono g h b, by rw [g.m]; exact hm, RpL.mono g.n r⟩
  | .han _, ⟨a, e, h⟩ => ⟨a, e, by rw [g.m]; exact h⟩
theorem Wok.mono {Z : Zc} {env : Ev} {σ : L2.St} {w w' : Wd} (k : Wok Z env σ w) (g : Gr w w') : Wok Z env σ w' :=
  ⟨g.wf, k.len, fun i s e => let ⟨o, h, q⟩ := k.sl i s e; ⟨o, h, q.mono g⟩, k.dj, k.tb.mono g⟩
/-! readings -/
def tE (Z : Zc) (f : FE) : TE := fun σ H Q => ∃ env w r, w.H = H ∧ Wok Z env σ w ∧ f env = some r ∧ ∀ v w', Gr w w' → RV Z w' r v → Q v w'.H
def tA (Z : Zc) (f : FA) : TA := fun σ H Q => ∃ env w rs, w.H = H ∧ Wok Z env σ w ∧ f env = some rs ∧ ∀ vs w', Gr w w' → RVs Z w' rs vs → Q vs w'.H
def tT (Z : Zc) (f : FT) : TT := fun σ H Q => ∃ env w b, w.H = H ∧ Wok Z env σ w ∧ f env = some b ∧ ∀ w', Gr w w' → Q b w'.H
def OutOk (Z : Zc) (D : Ends) (w : Wd) : Out → Prop
  | .nx e => ∀ σ' w', Gs w w' → Wok Z e σ' w' → D.nx σ' w'.H
  | .rt r => ∀ v w', Gs w w' → RV Z w' r v → D.rt v w'.H
  | .bk e => ∀ σ' w', Gs w w' → Wok Z e σ' w' → D.bk σ' w'.H
  | .ct e => ∀ σ' w', Gs w w' → Wok Z e σ' w' → D.ct σ' w'.H
  | .rth x T => ∀ v w', Gs w w' → HvOk Z w' v x → TbOk Z T w' → D.rt v w'.H
def tS (Z : Zc) (f : FS) : TS := fun D σ H => ∃ env w out, w.H = H ∧ Wok Z env σ w ∧ f env = some out ∧ OutOk Z D w out
theorem OutOk.mono {Z : Zc} {D : Ends} {w w' : Wd} (g : Gs w w') : ∀ {out : Out}, OutOk Z D w out → OutOk Z D w' out
  | .nx _, h => fun σ' w2 g2 => h σ' w2 (g.trans g2)
  | .rt _, h => fun v w2 g2 => h v w2 (g.trans g2)
  | .bk _, h => fun σ' w2 g2 => h σ' w2 (g.trans g2)
  | .ct _, h => fun σ' w2 g2 => h σ' w2 (g.trans g2)
  | .rth _ _, h => fun v w2 g2 => h v w2 (g.trans g2)
section
variable {X : Cx} {Z : Zc} {e : Expr} {es : List Expr}
theorem pe_w {t t' : TE} (h : PE X e t) (hw : ∀ σ H Q, t' σ H Q → t σ H Q) : PE X e t' := ⟨fun pins s σ H Q I q => h.run pins s σ H Q I (hw _ _ _ q)⟩
theorem pt_w {t t' : TT} (h : PT X e t) (hw : ∀ σ H Q, t' σ H Q → t σ H Q) : PT X e t' := ⟨fun pins s σ H Q I q => h.run pins s σ H Q I (hw _ _ _ q)⟩
theorem pw_w {t t' : TT} (h : PW X e t) (hw : ∀ σ H Q, t' σ H Q → t σ H Q) : PW X e t' := ⟨fun wh pins s σ H Q I q => h.run wh pins s σ H Q I (hw _ _ _ q)⟩
theorem pa_w {t t' : TA} (h : PA X es t) (hw : ∀ σ H Q, t' σ H Q → t σ H Q) : PA X es t' := ⟨fun ps pins s σ H Q I q => h.run ps pins s σ H Q I (hw _ _ _ q)⟩
theorem ps_w {st : Stmt} {t t' : TS} (h : PS X st t) (hw : ∀ D σ H, t' D σ H → t D σ H) : PS X st t' := ⟨fun pins s σ H D I q => h.run pins s σ H D I (hw _ _ _ q)⟩
theorem pss_w {st : List Stmt} {t t' : TS} (h : PSs X st t) (hw : ∀ D σ H, t' D σ H → t D σ H) : PSs X st t' := ⟨fun pins s σ H D I q => h.run pins s σ H D I (hw _ _ _ q)⟩
end
end Vf
namespace Vf
open PySem L2
abbrev zx (X : Cx) (cl : Str → Option Addr) : Zc := ⟨X.K, cl⟩
structure XS (X : Cx) : Prop where
  calm : X.calm = true
  nd : X.N.Nodup
  hu : X.A.units + 65 < cLine
def lim : Nat := 1000000
theorem lim_le {n : Nat} (h : n ≤ lim) : n ≤ sizeLine := Nat.le_trans h (by decide)
theorem lim_lt {n : Nat} (h : n ≤ lim) : n < sizeLine := Nat.lt_of_le_of_lt h (by decide)
/-! what things are worth -/
def sVar (i : Nat) : FE := fun env => match env.s[i]? with
  | some (.val t d) => some (nm (t, d))
  | some (.own ds) => some (.O, .lst ds)
  | _ => none
@[simp] def sLit (d : D) : FE := fun _ => some (.N, d)
@[simp] def sOp (o : TD → TD → Option TD) (f g : FE) : FE := fun env => (f env).bind fun x => (g env).bind fun y => o x y
@[simp] def sUn (o : TD → Option TD) (f : FE) : FE := fun env => (f env).bind o
@[simp] def sNil : FA := fun _ => some []
@[simp] def sCons (f : FE) (g : FA) : FA := fun env => (f env).bind fun x => (g env).bind fun xs => some (x :: xs)
@[simp] def sB (o : List TD → Option TD) (g : FA) : FE := fun env => (g env).bind o
@[simp] def sIfe (c : FT) (f g : FE) : FE := fun env => (c env).bind fun b => if b then f env else g env
def tru (r : TD) : Option Bool := match r.2 with
  | .non => some false
  | .bl b => some b
  | .int i => some (i != 0)
  | .str s => if s.length ≤ lim then some ((s.length : Int) != 0) else none
  | .lst xs => some (!xs.isEmpty)
  | .scr xs => some (!xs.isEmpty)
  | .tup xs => some (!xs.isEmpty)
  | _ => none
@[simp] def sTru (f : FE) : FT := fun env => (f env).bind tru
def asB (r : TD) : Option Bool := match r.2 with | .bl b => some b | _ => none
@[simp] def sBl (f : FE) : FT := fun env => (f env).bind asB
@[simp] def sAndT (c d : FT) : FT := fun env => (c env).bind fun b => if b then d env else some false
@[simp] def sOrT (c d : FT) : FT := fun env => (c env).bind fun b => if b then some true else d env
@[simp] def sNotT (c : FT) : FT := fun env => (c env).map fun b => !b
/-- and, or, not as values, the left one a bool -/
@[simp] def sAndV (f g : FE) : FE := fun env => ((f env).bind asB).bind fun b => if b then g env else some (.N, .bl false)
@[simp] def sOrV (f g : FE) : FE := fun env => ((f env).bind asB).bind fun b => if b then some (.N, .bl true) else g env
@[simp] def sNotV (f : FE) : FE := fun env => ((f env).bind asB).map fun b => (.N, .bl (!b))
/-- a < b < c -/
@[simp] def sCh (o p : TD → TD → Option TD) (f g h : FE) : FE := fun env => (f env).bind fun x => (g env).bind fun y => ((o x y).bind asB).bind fun b => if b then (h env).bind fun z => p y z else some (.N, .bl false)
section
variable {Z : Zc} {w : Wd}
theorem rv_s {t : Tg} {d : D} {v : V} (hw : Wf w) (hs : isS d = true) (h : RV Z w (t, d) v) : v = vOf d := rp_val hs (h.top hw)
theorem rv_int {t : Tg} {i : Int} {v : V} (hw : Wf w) (h : RV Z w (t, .int i) v) : v = .int i := rv_s hw rfl h
theorem rv_str {t : Tg} {z : Str} {v : V} (hw : Wf w) (h : RV Z w (t, .str z) v) : v = .str z := rv_s hw rfl h
theorem rv_bl {t : Tg} {b : Bool} {v : V} (hw : Wf w) (h : RV Z w (t, .bl b) v) : v = .bl b := rv_s hw rfl h
theorem rv_non {t : Tg} {v : V} (hw : Wf w) (h : RV Z w (t, .non) v) : v = .non := rv_s hw rfl h
theorem nN (d : D) (hs : isS d = true) : RV Z w (.N, d) (vOf d) := rp_of (Z := Z) (H := w.N) hs
theorem asB_some {r : TD} {b : Bool} (h : asB r = some b) : r.2 = .bl b := by
  obtain ⟨t, d⟩ := r
  unfold asB at h
  dsimp only at h
  split at h
  · cases h; rfl
  · cases h
end
/-! ### expressions -/
section
variable {X : Cx} {cl : Str → Option Addr} {a b c : Expr} {es : List Expr} {f g h : FE} {fa : FA} {ct dt : FT} {pos : Pos}
theorem je_var (i : Nat) {x : Str} {pos : Pos} (hN : X.N[i]? = some x := by rfl) (hv : Vis X.env.scope x := by first | exact Or.inl rfl | exact Or.inr (Or.inl rfl) | exact Or.inr (Or.inr rfl))
    (hd : (x == ("__debug__" : Str)) = false := by decide) (hcd : (x == ("__classdict__" : Str)) = false := by decide) : PE X (.Name x pos) (tE (zx X cl) (sVar i)) := by
  refine pe_w (pe_var (i := i) hN hv hd hcd) fun σ H Q ⟨env, w, r, e, k, hr, q⟩ => ?_
  subst e
  unfold sVar at hr
  split at hr
  · rename_i t d he
    cases hr
    obtain ⟨o, ho, v, rfl, hv⟩ := k.sl i _ he
    refine ⟨v, ho, q v w (Gr.refl k.wf) (RV.nm k.wf ?_)⟩
    rcases hv with ⟨rfl, hv⟩ | ⟨rfl, hv⟩ <;> exact hv
  · rename_i ds he
    cases hr
    obtain ⟨o, ho, p, vs, rfl, h1, h2, _, h3⟩ := k.sl i _ he
    exact ⟨_, ho, q _ w (Gr.refl k.wf) ⟨p, vs, ds, rfl, rfl, h1, h2, h3⟩⟩
  · cases hr
theorem je_lit {d : D} {e : Expr} (h : PE X e (tC (vOf d))) (hs : isS d = true) : PE X e (tE (zx X cl) (sLit d)) :=
  pe_w h fun σ H Q ⟨env, w, r, e, k, hr, q⟩ => by
    subst e
    cases hr
    exact q _ w (Gr.refl k.wf) (nN d hs)
theorem je_int {i : Int} {j : Nat} {pos : Pos} : PE X (.Constant (.int i) j pos) (tE (zx X cl) (sLit (.int i))) := je_lit (d := .int i) pe_int rfl
theorem je_bl {b : Bool} {j : Nat} {pos : Pos} : PE X (.Constant (.bool b) j pos) (tE (zx X cl) (sLit (.bl b))) := je_lit (d := .bl b) pe_bl rfl
theorem je_str {z : Str} {j : Nat} {pos : Pos} : PE X (.Constant (.str z) j pos) (tE (zx X cl) (sLit (.str z))) := je_lit (d := .str z) pe_str rfl
/-- a constant of the module -/
structure Gc (K : PySem.W.Frag) (mg : Str → Option Value) (cl : Str → Option Addr) (x : Str) (d : D) : Prop where
  ex : ∃ u v, mg x = some u ∧ RelV v u ∧ Rp ⟨K, cl⟩ (fun _ => none) v d
theorem same_none (H : Hp) : Same (fun _ => none) H := fun _ _ e => nomatch e
theorem je_gl {x : Str} {d : D} {pos : Pos} (G : Gc X.K X.mg cl x d) (hg : Gl X x := by rfl) (hdb : (x == ("__debug__" : Str)) = false := by decide) : PE X (.Name x pos) (tE (zx X cl) (sLit d)) := by
  obtain ⟨u, v, hm, r, hr⟩ := G.ex
  refine pe_w (pe_glob (v := v) hg hm r hdb) fun σ H Q ⟨env, w, r, e, k, hz, q⟩ => ?_
  subst e
  cases hz
  exact q v w (Gr.refl k.wf) (Rp.mono (same_none w.N) hr)
/-- operators by data -/
def rO (Z : Zc) (o : TD → TD → Option TD) : R2 := fun x y H Q => ∃ w rx ry z, w.H = H ∧ Wf w ∧ RV Z w rx x ∧ RV Z w ry y ∧ o rx ry = some z ∧ ∀ v w', Gr w w' → RV Z w' z v → Q v w'.H
theorem sOp_rd {o : TD → TD → Option TD} {σ : L2.St} {H : Hp} {Q : VK} {Z : Zc} (hh : tE Z (sOp o f g) σ H Q) : tOp (rO Z o) (tE Z f) (tE Z g) σ H Q := by
  obtain ⟨env, w, r, e, k, hr, q⟩ := hh
  subst e
  obtain ⟨x, hx, hr⟩ := Option.bind_eq_some_iff.mp hr
  obtain ⟨y, hy, hr⟩ := Option.bind_eq_some_iff.mp hr
  refine ⟨env, w, x, rfl, k, hx, fun v w1 g1 r1 => ⟨env, w1, y, rfl, k.mono g1, hy, fun u w2 g2 r2 => ?_⟩⟩
  exact ⟨w2, x, y, r, rfl, g2.wf, r1.mono g2, r2, hr, fun v' w3 g3 r3 => q v' w3 ((g1.trans g2).trans g3) r3⟩
theorem je_op {op : Operator} {o : TD → TD → Option TD} (ho : OpR X (binaryOp op) (rO (zx X cl) o)) (ha : PE X a (tE (zx X cl) f)) (hb : PE X b (tE (zx X cl) g)) : PE X (.BinOp a op b pos) (tE (zx X cl) (sOp o f g)) :=
  pe_w (pe_op ho ha hb) fun _ _ _ hh => sOp_rd hh
theorem je_cmp {op : CmpOp} {o : TD → TD → Option TD} (ho : OpR X (compareOp op) (rO (zx X cl) o)) (ha : PE X a (tE (zx X cl) f)) (hb : PE X b (tE (zx X cl) g)) (hm : behindInMarks op b = false := by first | exact nomark _ | rfl) : PE X (.Compare a [op] [b] pos) (tE (zx X cl) (sOp o f g)) :=
  pe_w (pe_cmpR ho ha hb hm) fun _ _ _ hh => sOp_rd hh
/-- a value that is a bool, as a test -/
theorem sBl_rd {σ : L2.St} {H : Hp} {Q : Bool → Hp → Prop} {Z : Zc} (hh : tT Z (sBl f) σ H Q) : tE Z f σ H fun x H' => ∃ k, x = .bl k ∧ Q k H' := by
  obtain ⟨env, w, r, e, k, hr, q⟩ := hh
  subst e
  obtain ⟨x, hx, hr⟩ := Option.bind_eq_some_iff.mp hr
  refine ⟨env, w, x, rfl, k, hx, fun v w1 g1 r1 => ⟨r, ?_, q w1 g1⟩⟩
  obtain ⟨t, d⟩ := x
  cases asB_some hr
  exact rv_bl g1.wf r1
theorem jt_cmp {op : CmpOp} {o : TD → TD → Option TD} (ho : OpR X (compareOp op) (rO (zx X cl) o)) (ha : PE X a (tE (zx X cl) f)) (hb : PE X b (tE (zx X cl) g)) (hm : behindInMarks op b = false := by first | exact nomark _ | rfl) : PT X (.Compare a [op] [b] pos) (tT (zx X cl) (sBl (sOp o f g))) :=
  pt_w (pt_cmpR ho ha hb hm) fun σ H Q hh => sOp_rd (Q := fun x H' => ∃ k, x = .bl k ∧ Q k H') (sBl_rd hh)
theorem tru_v {r : TD} {v : V} {w : Wd} {k : Bool} {Z : Zc} (hw : Wf w) (hr : tru r = some k) (h : RV Z w r v) : TruV Z.K v w.H k := by
  obtain ⟨t, d⟩ := r
  unfold tru at hr
  dsimp only at hr
  split at hr
  · cases hr; rw [rv_non hw h]; exact rfl
  · cases hr; rw [rv_bl hw h]; exact rfl
  · cases hr; rw [rv_int hw h]; exact rfl
  · split at hr
    · rename_i hl
      cases hr; rw [rv_str hw h]; exact ⟨lim_le hl, rfl⟩
    · cases hr
  · cases hr
    obtain ⟨p, vs, rfl, h1, h2⟩ := h.lst hw
    refine .inl ⟨vs, SqL.of h1, ?_⟩
    cases h2 <;> rfl
  · cases hr
    obtain ⟨p, vs, rfl, h1, h2⟩ := h.scr hw
    refine .inl ⟨vs, h1, ?_⟩
    cases h2 <;> rfl
  · cases hr
    obtain ⟨p, vs, rfl, h1, h2⟩ := h.tup hw
    refine .inr (.inl ⟨vs, h1, ?_⟩)
    cases h2 <;> rfl
  · cases hr
/-- any value by its truth, as a test -/
theorem jt_v (ha : PE X a (tE (zx X cl) f)) (he : ∀ whole, isTrue a X.env whole = (do let v ← whole; standAt a.pos; holding [v] (truthy v)) := by intro _; rfl) : PT X a (tT (zx X cl) (sTru f)) := by
  refine pt_w (pt_truth ha he) fun σ H Q ⟨env, w, r, e, k, hr, q⟩ => ?_
  subst e
  obtain ⟨x, hx, hr⟩ := Option.bind_eq_some_iff.mp hr
  exact ⟨env, w, x, rfl, k, hx, fun v w1 g1 r1 => ⟨r, tru_v g1.wf hr r1, q w1 g1⟩⟩
theorem jt_not (ha : PT X a (tT (zx X cl) ct)) : PT X (.UnaryOp .Not a pos) (tT (zx X cl) (sNotT ct)) := by
  refine pt_w (pt_not ha) fun σ H Q ⟨env, w, r, e, k, hr, q⟩ => ?_
  subst e
  obtain ⟨x, hx, hr⟩ := Option.map_eq_some_iff.mp hr
  subst hr
  exact ⟨env, w, x, rfl, k, hx, fun w1 g1 => q w1 g1⟩
theorem jw_and1 (ha : PT X a (tT (zx X cl) ct)) : PW X (.BoolOp .And [a] pos) (tT (zx X cl) ct) := pw_and1 ha
theorem jw_or1 (ha : PT X a (tT (zx X cl) ct)) : PW X (.BoolOp .Or [a] pos) (tT (zx X cl) ct) := pw_or1 ha
theorem jw_and (ha : PT X a (tT (zx X cl) ct)) (hb : PW X (.BoolOp .And (b :: es) pos) (tT (zx X cl) dt)) : PW X (.BoolOp .And (a :: b :: es) pos) (tT (zx X cl) (sAndT ct dt)) := by
  refine pw_w (pw_and ha hb) fun σ H Q ⟨env, w, r, e, k, hr, q⟩ => ?_
  subst e
  obtain ⟨x, hx, hr⟩ := Option.bind_eq_some_iff.mp hr
  refine ⟨env, w, x, rfl, k, hx, fun w1 g1 => ?_⟩
  cases x with
  | true => exact ⟨env, w1, r, rfl, k.mono g1, hr, fun w2 g2 => q w2 (g1.trans g2)⟩
  | false =>
    cases hr
    exact q w1 g1
theorem jw_or (ha : PT X a (tT (zx X cl) ct)) (hb : PW X (.BoolOp .Or (b :: es) pos) (tT (zx X cl) dt)) : PW X (.BoolOp .Or (a :: b :: es) pos) (tT (zx X cl) (sOrT ct dt)) := by
  refine pw_w (pw_or ha hb) fun σ H Q ⟨env, w, r, e, k, hr, q⟩ => ?_
  subst e
  obtain ⟨x, hx, hr⟩ := Option.bind_eq_some_iff.mp hr
  refine ⟨env, w, x, rfl, k, hx, fun w1 g1 => ?_⟩
  cases x with
  | false => exact ⟨env, w1, r, rfl, k.mono g1, hr, fun w2 g2 => q w2 (g1.trans g2)⟩
  | true =>
    cases hr
    exact q w1 g1
theorem jt_w (ha : PW X a (tT (zx X cl) ct)) : PT X a (tT (zx X cl) ct) := ha.pt
theorem je_and1 (ha : PE X a (tE (zx X cl) f)) : PE X (.BoolOp .And [a] pos) (tE (zx X cl) f) := pe_one ha
theorem je_or1 (ha : PE X a (tE (zx X cl) f)) : PE X (.BoolOp .Or [a] pos) (tE (zx X cl) f) := pe_one ha
theorem je_and (ha : PE X a (tE (zx X cl) f)) (hb : PE X (.BoolOp .And (b :: es) pos) (tE (zx X cl) g)) : PE X (.BoolOp .And (a :: b :: es) pos) (tE (zx X cl) (sAndV f g)) := by
  refine pe_w (pe_and ha hb) fun σ H Q ⟨env, w, r, e, k, hr, q⟩ => ?_
  subst e
  obtain ⟨x, hx, hr⟩ := Option.bind_eq_some_iff.mp hr
  obtain ⟨y, hy, hx⟩ := Option.bind_eq_some_iff.mp hx
  refine ⟨env, w, y, rfl, k, hy, fun v w1 g1 r1 => ⟨x, ?_, ?_⟩⟩
  · obtain ⟨t, d⟩ := y
    cases asB_some hx
    exact rv_bl g1.wf r1
  · cases x with
    | true => exact ⟨env, w1, r, rfl, k.mono g1, hr, fun v w2 g2 r2 => q v w2 (g1.trans g2) r2⟩
    | false =>
      cases hr
      exact q _ w1 g1 (nN (.bl false) rfl)
theorem je_or (ha : PE X a (tE (zx X cl) f)) (hb : PE X (.BoolOp .Or (b :: es) pos) (tE (zx X cl) g)) : PE X (.BoolOp .Or (a :: b :: es) pos) (tE (zx X cl) (sOrV f g)) := by
  refine pe_w (pe_or ha hb) fun σ H Q ⟨env, w, r, e, k, hr, q⟩ => ?_
  subst e
  obtain ⟨x, hx, hr⟩ := Option.bind_eq_some_iff.mp hr
  obtain ⟨y, hy, hx⟩ := Option.bind_eq_some_iff.mp hx
  refine ⟨env, w, y, rfl, k, hy, fun v w1 g1 r1 => ⟨x, ?_, ?_⟩⟩
  · obtain ⟨t, d⟩ := y
    cases asB_some hx
    exact rv_bl g1.wf r1
  · cases x with
    | false => exact ⟨env, w1, r, rfl, k.mono g1, hr, fun v w2 g2 r2 => q v w2 (g1.trans g2) r2⟩
    | true =>
      cases hr
      exact q _ w1 g1 (nN (.bl true) rfl)
/-! arguments -/
theorem ja_nil : PA X [] (tA (zx X cl) sNil) := by
  refine pa_w pa_nil fun σ H Q ⟨env, w, r, e, k, hr, q⟩ => ?_
  subst e
  cases hr
  exact q [] w (Gr.refl k.wf) trivial
theorem ja_cons (ha : PE X a (tE (zx X cl) f)) (hr : PA X es (tA (zx X cl) fa)) (hs : starEach (a :: es) X.env = (false, eval a X.env) :: starEach es X.env := by rfl) : PA X (a :: es) (tA (zx X cl) (sCons f fa)) := by
  refine pa_w (pa_cons ha hr hs) fun σ H Q ⟨env, w, r, e, k, hr, q⟩ => ?_
  subst e
  obtain ⟨x, hx, hr⟩ := Option.bind_eq_some_iff.mp hr
  obtain ⟨xs, hxs, hr⟩ := Option.bind_eq_some_iff.mp hr
  cases hr
  exact ⟨env, w, x, rfl, k, hx, fun v w1 g1 r1 => ⟨env, w1, xs, rfl, k.mono g1, hxs, fun vs w2 g2 r2 => q _ w2 (g1.trans g2) ⟨r1.mono g2, r2⟩⟩⟩
/-- built-ins by data -/
def rC (Z : Zc) (o : List TD → Option TD) : List V → Hp → VK → Prop := fun xs H Q => ∃ w rs z, w.H = H ∧ Wf w ∧ RVs Z w rs xs ∧ o rs = some z ∧ ∀ v w', Gr w w' → RV Z w' z v → Q v w'.H
theorem sB_rd {o : List TD → Option TD} {σ : L2.St} {H : Hp} {Q : VK} {Z : Zc} (hh : tE Z (sB o fa) σ H Q) : tA Z fa σ H fun xs H1 => rC Z o xs H1 Q := by
  obtain ⟨env, w, r, e, k, hr, q⟩ := hh
  subst e
  obtain ⟨x, hx, hr⟩ := Option.bind_eq_some_iff.mp hr
  exact ⟨env, w, x, rfl, k, hx, fun vs w1 g1 r1 => ⟨w1, x, r, rfl, g1.wf, r1, hr, fun v w2 g2 r2 => q v w2 (g1.trans g2) r2⟩⟩
theorem je_b {id : String} {x : Str} {p : Pos} {o : List TD → Option TD} (hc : CallR X (.builtin id) (rC (zx X cl) o)) (hm : X.mg x = none) (hv : bootBuiltins x = some (.builtin id)) (ha : PA X (a :: es) (tA (zx X cl) fa)) (hg : Gl X x := by rfl)
    (hn : x ≠ "__name__" := by decide) (hdb : (x == ("__debug__" : Str)) = false := by decide) (he : starEach (a :: es) X.env = (false, eval a X.env) :: starEach es X.env := by rfl) (hpl : (backTo pos (starEach es X.env)).any (·.1) = false := by rfl) :
    PE X (.Call (.Name x p) (a :: es) [] pos) (tE (zx X cl) (sB o fa)) := pe_w (pe_callB hc hg hm hv ha hn hdb he hpl) fun _ _ _ hh => sB_rd hh
theorem je_ty {T : String} {x : Str} {p : Pos} {o : List TD → Option TD} (hc : CallR X (.type T) (rC (zx X cl) o)) (hm : X.mg x = none) (hv : bootBuiltins x = some (.type T)) (ha : PA X (a :: es) (tA (zx X cl) fa)) (hg : Gl X x := by rfl)
    (hn : x ≠ "__name__" := by decide) (hdb : (x == ("__debug__" : Str)) = false := by decide) (he : starEach (a :: es) X.env = (false, eval a X.env) :: starEach es X.env := by rfl) (hpl : (backTo pos (starEach es X.env)).any (·.1) = false := by rfl) :
    PE X (.Call (.Name x p) (a :: es) [] pos) (tE (zx X cl) (sB o fa)) := pe_w (pe_callTy hc hg hm hv ha hn hdb he hpl) fun _ _ _ hh => sB_rd hh
end
end Vf
namespace Vf
open PySem L2
/-! ### operators, by data -/
def bitsOk (i j : Int) : Bool := decide (Builtin.Int.intBits i + Builtin.Int.intBits j ≤ 134217728)
def cell (t : Tg) : Tg := match t with | .O => .T | t => t
/-- the tag of a thing that holds these -/
def tagL : List TD → Tg
  | [] => .N
  | r :: rs => mt2 (cell r.1) (tagL rs)
def catL (a b : TD) : Option (Tg × List D) := match a.2, b.2 with
  | .lst xs, .lst ys => if xs.length + ys.length ≤ lim then some (mt2 (el a.1) (el b.1), xs ++ ys) else none
  | _, _ => none
def oAdd (a b : TD) : Option TD := match a.2, b.2 with
  | .int i, .int j => some (.N, .int (i + j))
  | .str x, .str y => if x.length + y.length ≤ lim then some (.N, .str (x ++ y)) else none
  | .tup xs, .tup ys => if xs.length + ys.length ≤ lim then some (mt2 (el a.1) (el b.1), .tup (xs ++ ys)) else none
  | .lst xs, .lst ys => if xs.length + ys.length ≤ lim then some (mt2 (el a.1) (el b.1), .lst (xs ++ ys)) else none
  | _, _ => none
def oSub (a b : TD) : Option TD := match a.2, b.2 with
  | .int i, .int j => some (.N, .int (i - j))
  | _, _ => none
def repS (z : Str) (n : Nat) : Str := ⟨(List.replicate n z.cps.toList).flatten.toArray⟩
noncomputable def oMul (a b : TD) : Option TD := match a.2, b.2 with
  | .int i, .int j => cif (bitsOk i j = true) (some (.N, .int (i * j))) none
  | .lst xs, .int k => cif (k.natAbs ≤ lim ∧ xs.length * k.toNat ≤ lim) (some (el a.1, .lst (List.replicate k.toNat xs).flatten)) none
  | .str z, .int k => cif (0 ≤ k ∧ k.natAbs ≤ lim ∧ z.length * k.toNat ≤ lim) (some (.N, .str (repS z k.toNat))) none
  | _, _ => none
noncomputable def oFd (a b : TD) : Option TD := match a.2, b.2 with
  | .int i, .int j => cif (0 < j ∧ j < 18446744073709551616) (some (.N, .int (i / j))) none
  | _, _ => none
noncomputable def oMod (a b : TD) : Option TD := match a.2, b.2 with
  | .int i, .int j => cif (0 < j) (some (.N, .int (i % j))) none
  | _, _ => none
noncomputable def oPow (a b : TD) : Option TD := match a.2, b.2 with
  | .int i, .int j => cif (0 ≤ j ∧ j ≤ 1000000 ∧ i.natAbs < 18446744073709551616) (some (.N, .int (i ^ j.toNat))) none
  | _, _ => none
mutual
def py : D → PyData
  | .non => .none | .bl b => .bool b | .int i => .int i | .str s => .str s
  | .lst xs => .list (pyL xs) | .scr xs => .list (pyL xs) | .tup xs => .tuple (pyL xs)
  | .ins _ _ _ => .none | .dic _ _ => .none
def pyL : List D → List PyData
  | [] => []
  | x :: xs => py x :: pyL xs
end
mutual
def pyOk : D → Bool
  | .non => true | .bl _ => true | .int _ => true | .str _ => true
  | .lst xs => pyOkL xs | .scr xs => pyOkL xs | .tup xs => pyOkL xs
  | .ins _ _ _ => false | .dic _ _ => false
def pyOkL : List D → Bool
  | [] => true
  | x :: xs => pyOk x && pyOkL xs
end
def eqD (a b : D) : Option Bool := match a, b with
  | .int i, .int j => some (decide (i = j))
  | .str x, .str y => some (decide (x = y))
  | .bl x, .bl y => some (decide (x = y))
  | .non, .non => some true
  | .int _, .non => some false
  | .non, .int _ => some false
  | .str _, .non => some false
  | .non, .str _ => some false
  | .int _, .str _ => some false
  | .str _, .int _ => some false
  | a, b => if pyOk a && pyOk b && SeqAt.shaped (py a) && SeqAt.shaped (py b) then some (PyData.eqv (py a) (py b)) else none
def oEq (a b : TD) : Option TD := (eqD a.2 b.2).map fun k => (.N, .bl k)
def oNe (a b : TD) : Option TD := (eqD a.2 b.2).map fun k => (.N, .bl (!k))
noncomputable def oLt (a b : TD) : Option TD := match a.2, b.2 with | .int i, .int j => some (.N, .bl (cdec (i < j))) | _, _ => none
noncomputable def oGt (a b : TD) : Option TD := match a.2, b.2 with | .int i, .int j => some (.N, .bl (cdec (j < i))) | _, _ => none
noncomputable def oGe (a b : TD) : Option TD := match a.2, b.2 with | .int i, .int j => some (.N, .bl (cdec (j ≤ i))) | _, _ => none
def eqS (x y : D) : Bool := eqV (vOf x) (vOf y)
/-- a dict's key -/
def keyD : D → Option Key
  | .int i => some (.inl i)
  | .str s => some (.inr s)
  | _ => none
/-- what stands at a key -/
def dgt {α : Type} : List Key → List α → Key → Option α
  | k :: ks, x :: xs, q => if k = q then some x else dgt ks xs q
  | _, _, _ => none
theorem dgt_val : ∀ (ks : List Key) (xs : List L2.V) (q : Key), valV (ks.zip xs) q = dgt ks xs q
  | [], _, _ => rfl
  | _ :: _, [], _ => rfl
  | k :: ks, x :: xs, q => by
    unfold dgt
    by_cases e : k = q
    · rw [if_pos e]; exact valV_pos (p := (k, x)) e
    · rw [if_neg e, ← dgt_val ks xs q]; exact valV_neg (p := (k, x)) e
def hasK (ks : List Key) (q : Key) : Bool := ks.any fun k => decide (k = q)
theorem dgt_some {α : Type} : ∀ {ks : List Key} {xs : List α} {q : Key}, xs.length = ks.length → (dgt ks xs q).isSome = hasK ks q
  | [], xs, q, _ => by cases xs <;> rfl
  | k :: ks, [], q, h => by cases h
  | k :: ks, x :: xs, q, h => by
    have ih := dgt_some (q := q) (show xs.length = ks.length by simpa using h)
    unfold dgt
    by_cases e : k = q
    · simp [e, hasK]
    · rw [if_neg e, ih]
      simp [hasK, e]
theorem dgt_rp {Z : Zc} {H : Hp} : ∀ {ks : List Key} {vs : List V} {ds : List D} {q : Key} {d : D}, RpL Z H vs ds → dgt ks ds q = some d → ∃ v, dgt ks vs q = some v ∧ Rp Z H v d
  | [], _, _, _, _, _, h => by cases h
  | _ :: _, _, _, _, _, .nil, h => by cases h
  | k :: ks, _, _, q, d, .cons h r, e => by
    unfold dgt at e ⊢
    by_cases c : k = q
    · rw [if_pos c] at e ⊢; cases e; exact ⟨_, rfl, h⟩
    · rw [if_neg c] at e ⊢; exact dgt_rp r e
theorem keyD_v {d : D} {k : Key} (h : keyD d = some k) : isS d = true ∧ vOf d = kV k := by
  cases d <;> cases h <;> exact ⟨rfl, rfl⟩
def inD (a b : D) : Option Bool := match b with
  | .lst xs => if isS a && xs.all isS then some (xs.any fun y => eqS y a) else none
  | .scr xs => if isS a && xs.all isS then some (xs.any fun y => eqS y a) else none
  | .tup xs => if isS a && xs.all isS then some (xs.any fun y => eqS y a) else none
  | .str z => match a with
    | .str s => if s.length = 1 then some (decide (s.cps.getD 0 0 ∈ z.cps.toList)) else none
    | _ => none
  | .dic ks ds => (keyD a).map fun k => hasK ks k
  | _ => none
def oIn (a b : TD) : Option TD := (inD a.2 b.2).map fun k => (.N, .bl k)
def isD (a b : D) : Option Bool := match b with
  | .non => match a with | .non => some true | _ => some false
  | .bl y => match a with | .bl x => some (decide (x = y)) | _ => none
  | _ => none
def oIs (a b : TD) : Option TD := (isD a.2 b.2).map fun k => (.N, .bl k)
def oIsN (a b : TD) : Option TD := (isD a.2 b.2).map fun k => (.N, .bl (!k))
def ixD (a : TD) (i : Int) : Option TD := match a.2 with
  | .lst xs => (atI xs i).map fun d => nm (el a.1, d)
  | .scr xs => (atI xs i).map fun d => nm (el a.1, d)
  | .tup xs => (atI xs i).map fun d => nm (el a.1, d)
  | .str z => if z.length ≤ lim then (atI z.cps.toList i).map fun c => (.N, .str ⟨#[c]⟩) else none
  | .dic ks ds => (dgt ks ds (.inl i)).map fun d => nm (el a.1, d)
  | _ => none
def ixS (a : TD) (z : Str) : Option TD := match a.2 with
  | .dic ks ds => (dgt ks ds (.inr z)).map fun d => nm (el a.1, d)
  | _ => none
def oIx (a b : TD) : Option TD := match b.2 with | .int i => ixD a i | .str z => ixS a z | _ => none
section
variable {Z : Zc} {w : Wd}
theorem fin1 {Q : VK} {d : D} {H : Hp} (hw : Wf w) (e : w.H = H) (hs : isS d = true) (q : ∀ v w', Gr w w' → RV Z w' (.N, d) v → Q v w'.H) : Q (vOf d) H := by
  subst e
  exact q _ w (Gr.refl hw) (nN d hs)
theorem tagL_ne : ∀ rs, tagL rs ≠ .O
  | [] => by decide
  | r :: rs => mt2_ne _ _
theorem cell_rv {t : Tg} {d : D} {v : V} (hw : Wf w) (h : RV Z w (t, d) v) : RV Z w (cell t, d) v := by
  cases t with
  | O => exact h.top hw
  | N => exact h
  | B => exact h
  | T => exact h
theorem rvs_items (hw : Wf w) : ∀ {rs : List TD} {vs : List V}, RVs Z w rs vs → RpL Z (w.rd (tagL rs)) vs (rs.map (·.2))
  | [], [], _ => .nil
  | (t, d) :: rs, v :: vs, ⟨h, r⟩ => by
    have h1 := cell_rv hw h
    have hc : cell t ≠ .O := by cases t <;> decide
    have h2 := RV.rp hc h1
    refine .cons (Rp.mono ?_ h2) (RpL.mono ?_ (rvs_items hw r))
    · show Same (w.rd (cell t)) (w.rd (mt2 (cell t) (tagL rs)))
      cases t <;> cases tagL rs <;> first | exact .refl _ | exact hw.nb | exact hw.bh | exact hw.nh
    · show Same (w.rd (tagL rs)) (w.rd (mt2 (cell t) (tagL rs)))
      have := tagL_ne rs
      cases h : tagL rs <;> cases t <;> first | exact .refl _ | exact hw.nb | exact hw.bh | exact hw.nh | exact (this h).elim
  | [], _ :: _, h => h.elim
  | _ :: _, [], h => h.elim
end
section
variable {X : Cx} {cl : Str → Option Addr}
theorem or_add : OpR X (binaryOp .Add) (rO (zx X cl) oAdd) := by
  rintro pins s σ H x y v u Q I rx ry ⟨w, ⟨t, d⟩, ⟨t', d'⟩, z, eH, hw, ha, hb, ho, q⟩
  unfold oAdd at ho
  dsimp only at ho
  split at ho
  · cases ho
    exact op_add pins s σ H x y v u Q I rx ry ⟨_, _, rv_int hw ha, rv_int hw hb, fin1 hw eH rfl q⟩
  · split at ho
    · rename_i hl
      cases ho
      exact op_add_str pins s σ H x y v u Q I rx ry ⟨_, _, rv_str hw ha, rv_str hw hb, lim_le hl, fin1 hw eH rfl q⟩
    · cases ho
  · split at ho
    · rename_i xs ys hl
      cases ho
      have ha' := ha
      have hb' := hb
      obtain ⟨p, vs, rfl, h1, h2⟩ := ha.tup hw
      obtain ⟨p', vs', rfl, h1', h2'⟩ := hb.tup hw
      subst eH
      refine op_catA pins s σ w.H _ _ v u Q I rx ry ⟨_, _, _, _, rfl, rfl, h1, h1', lim_le (by rw [h2.length, h2'.length]; exact hl), fun e => ?_, fun _ e => ?_, fun n1 n2 np hnp => ?_⟩
      · subst e
        cases h2
        rw [List.nil_append] at q
        refine q _ w (Gr.refl hw) (RV.of (mt2_ne _ _) (Rp.mono (mt2_r hw (el t) t') ?_))
        cases t' <;> first | exact hb' | (obtain ⟨_, _, _, _, z, _⟩ := hb'; cases z)
      · subst e
        cases h2'
        rw [List.append_nil] at q
        refine q _ w (Gr.refl hw) (RV.of (mt2_ne _ _) (Rp.mono (mt2_l hw t (el t')) ?_))
        cases t <;> first | exact ha' | (obtain ⟨_, _, _, _, z, _⟩ := ha'; cases z)
      · have g := Gr.put hw (t := mt2 (el t) (el t')) (o := .tup (vs ++ vs')) hnp
        have := q _ _ g (new_tup hw (mt2_ne _ _) hnp ((RpL.mono (mt2_l hw t (el t')) h2).append (RpL.mono (mt2_r hw (el t) t') h2')))
        rw [put_H] at this
        exact this
    · cases ho
  · split at ho
    · rename_i xs ys hl
      cases ho
      obtain ⟨p, vs, rfl, h1, h2⟩ := ha.lst hw
      obtain ⟨p', vs', rfl, h1', h2'⟩ := hb.lst hw
      subst eH
      refine op_cat pins s σ w.H _ _ v u Q I rx ry ⟨_, _, _, _, rfl, rfl, h1, h1', lim_le (by rw [h2.length, h2'.length]; exact hl), fun np hnp => ?_⟩
      have g := Gr.put hw (t := mt2 (el t) (el t')) (o := .lst (vs ++ vs')) hnp
      have := q _ _ g (new_lst hw (mt2_ne _ _) hnp ((RpL.mono (mt2_l hw t (el t')) h2).append (RpL.mono (mt2_r hw (el t) t') h2')))
      rw [put_H] at this
      exact this
    · cases ho
  · cases ho
theorem or_sub : OpR X (binaryOp .Sub) (rO (zx X cl) oSub) := by
  rintro pins s σ H x y v u Q I rx ry ⟨w, ⟨t, d⟩, ⟨t', d'⟩, z, eH, hw, ha, hb, ho, q⟩
  unfold oSub at ho
  dsimp only at ho
  split at ho
  · cases ho
    exact op_sub pins s σ H x y v u Q I rx ry ⟨_, _, rv_int hw ha, rv_int hw hb, fin1 hw eH rfl q⟩
  · cases ho
theorem bitsOk_mul {i j : Int} (h : bitsOk i j = true) : IntMulOk i j := IntMulOk.of_le (Nat.le_refl _) (Nat.le_refl _) (of_decide_eq_true h)
theorem or_mul : OpR X (binaryOp .Mult) (rO (zx X cl) oMul) := by
  rintro pins s σ H x y v u Q I rx ry ⟨w, ⟨t, d⟩, ⟨t', d'⟩, z, eH, hw, ha, hb, ho, q⟩
  unfold oMul at ho
  dsimp only at ho
  split at ho
  · unfold cif at ho
    split at ho
    · rename_i i j hl
      cases ho
      have e1 := rv_int hw ha
      have e2 := rv_int hw hb
      subst e1 e2
      obtain ⟨tx, rfl⟩ := rx
      obtain ⟨ty, rfl⟩ := ry
      exact PyProof.Rows.mul_int ⟨.int (i * j), H, I.tok _, ⟨_, rfl⟩, fin1 hw eH rfl q⟩ (bitsOk_mul hl)
    · cases ho
  · unfold cif at ho
    split at ho
    · rename_i xs k hl
      cases ho
      obtain ⟨p, vs, rfl, h1, h2⟩ := ha.lst hw
      have e2 := rv_int hw hb
      subst eH e2
      have hk : k.natAbs ≤ 1000000 := hl.1
      refine op_rep pins s σ w.H _ _ v u Q I rx ry ⟨_, _, _, rfl, rfl, h1, by omega, by omega, lim_le (by rw [h2.length]; exact hl.2), fun np hnp => ?_⟩
      have g := Gr.put hw (t := el t) (o := .lst (List.replicate k.toNat vs).flatten) hnp
      have := q _ _ g (new_lst hw (el_ne _) hnp (h2.rep _))
      rw [put_H] at this
      exact this
    · cases ho
  · unfold cif at ho
    split at ho
    · rename_i z0 k hl
      cases ho
      have e1 := rv_str hw ha
      have e2 := rv_int hw hb
      subst e1 e2
      obtain ⟨tx, rfl⟩ := rx
      obtain ⟨ty, rfl⟩ := ry
      have hz : sizeLine = 16777216 := sizeLine_eq
      have l1 : k.natAbs ≤ 1000000 := hl.2.1
      have l2 : z0.length * k.toNat ≤ 1000000 := hl.2.2
      have sz : ∀ (m : Nat), (List.foldl (fun x1 x2 => x1 ++ x2) #[] (List.replicate m z0.cps)) = (List.replicate m z0.cps.toList).flatten.toArray := fun m => by
        have aux : ∀ (l : List (Array Nat)) (acc : Array Nat), l.foldl (fun x1 x2 => x1 ++ x2) acc = acc ++ (l.map Array.toList).flatten.toArray := by
          intro l
          induction l with
          | nil => intro acc; simp
          | cons b r ih => intro acc; rw [List.foldl_cons, ih]; apply Array.toList_inj.mp; simp
        rw [aux]
        simp
      refine PySem.P.mul_str ?_ ?_ ?_ ?_
      · rw [decide_eq_false (by omega), decide_eq_false (by omega)] <;> rfl
      · intro h1 h2 h3
        have hk : (k.toNat : Int) = k := by omega
        have h4 : ((2 ^ 63 - 1) / k : Int) < (z0.length : Int) := h3
        have h5 := (Int.ediv_lt_iff_lt_mul (by omega : (0 : Int) < k)).mp h4
        rw [← hk] at h5
        have h6 : ((z0.length : Int) * (k.toNat : Int)) = ((z0.length * k.toNat : Nat) : Int) := by rw [Int.natCast_mul]
        rw [h6] at h5
        omega
      · intro h1 h2
        show decide (sizeLine < z0.length * k.toNat) = false
        exact decide_eq_false (by omega)
      · by_cases hk : k < 1
        · rw [if_pos hk]
          have e0 : k.toNat = 0 := by omega
          refine ⟨by decide, .str (repS z0 k.toNat), H, I.tok _, ⟨s.toks, ?_⟩, fin1 hw eH rfl q⟩
          rw [e0]
          rfl
        · rw [if_neg hk]
          by_cases hc : (k == 1 || z0.length == 0) = true
          · rw [if_pos hc]
            refine ⟨.str (repS z0 k.toNat), H, I, ⟨tx, ?_⟩, fin1 hw eH rfl q⟩
            have : repS z0 k.toNat = z0 := by
              simp only [Bool.or_eq_true, beq_iff_eq] at hc
              rcases hc with hc | hc
              · subst hc
                simp [repS]
              · have e0 : z0.cps = #[] := Array.eq_empty_of_size_eq_zero hc
                obtain ⟨c0⟩ := z0
                simp only at e0
                subst e0
                unfold repS
                have : (List.replicate k.toNat ([] : List Nat)).flatten = [] := by simp
                simp [this]
            rw [this]
          · rw [if_neg hc]
            refine ⟨?_, .str (repS z0 k.toNat), H, I.tok _, ⟨s.toks, ?_⟩, fin1 hw eH rfl q⟩
            · rw [sz]
              show ((List.replicate k.toNat z0.cps.toList).flatten.toArray).size ≤ sizeLine
              have : ((List.replicate k.toNat z0.cps.toList).flatten.toArray).size = k.toNat * z0.length := by
                simp [Str.length]
              rw [this, Nat.mul_comm]
              omega
            · rw [sz]
              rfl
    · cases ho
  · cases ho
theorem or_fd : OpR X (binaryOp .FloorDiv) (rO (zx X cl) oFd) := by
  rintro pins s σ H x y v u Q I rx ry ⟨w, ⟨t, d⟩, ⟨t', d'⟩, z, eH, hw, ha, hb, ho, q⟩
  unfold oFd at ho
  dsimp only at ho
  split at ho
  · unfold cif at ho
    split at ho
    · rename_i i j hl
      cases ho
      exact op_fdivW pins s σ H x y v u Q I rx ry ⟨_, _, rv_int hw ha, rv_int hw hb, wide_div (b := 64) hl.1 (by omega) (by decide) (by decide), fin1 hw eH rfl q⟩
    · cases ho
  · cases ho
theorem or_mod : OpR X (binaryOp .Mod) (rO (zx X cl) oMod) := by
  rintro pins s σ H x y v u Q I rx ry ⟨w, ⟨t, d⟩, ⟨t', d'⟩, z, eH, hw, ha, hb, ho, q⟩
  unfold oMod at ho
  dsimp only at ho
  split at ho
  · unfold cif at ho
    split at ho
    · rename_i i j hl
      cases ho
      exact op_mod pins s σ H x y v u Q I rx ry ⟨_, _, rv_int hw ha, rv_int hw hb, hl, fin1 hw eH rfl q⟩
    · cases ho
  · cases ho
theorem or_pow : OpR X (binaryOp .Pow) (rO (zx X cl) oPow) := by
  rintro pins s σ H x y v u Q I rx ry ⟨w, ⟨t, d⟩, ⟨t', d'⟩, z, eH, hw, ha, hb, ho, q⟩
  unfold oPow at ho
  dsimp only at ho
  split at ho
  · unfold cif at ho
    split at ho
    · rename_i i j hl
      cases ho
      exact op_pow pins s σ H x y v u Q I rx ry ⟨_, _, rv_int hw ha, rv_int hw hb, hl, fin1 hw eH rfl q⟩
    · cases ho
  · cases ho
theorem or_lt : OpR X (compareOp .Lt) (rO (zx X cl) oLt) := by
  rintro pins s σ H x y v u Q I rx ry ⟨w, ⟨t, d⟩, ⟨t', d'⟩, z, eH, hw, ha, hb, ho, q⟩
  unfold oLt at ho
  dsimp only at ho
  split at ho
  · cases ho
    rw [cdec_eq] at q
    exact op_lt pins s σ H x y v u Q I rx ry ⟨_, _, rv_int hw ha, rv_int hw hb, fin1 hw eH rfl q⟩
  · cases ho
theorem or_gt : OpR X (compareOp .Gt) (rO (zx X cl) oGt) := by
  rintro pins s σ H x y v u Q I rx ry ⟨w, ⟨t, d⟩, ⟨t', d'⟩, z, eH, hw, ha, hb, ho, q⟩
  unfold oGt at ho
  dsimp only at ho
  split at ho
  · cases ho
    rw [cdec_eq] at q
    exact op_gt pins s σ H x y v u Q I rx ry ⟨_, _, rv_int hw ha, rv_int hw hb, fin1 hw eH rfl q⟩
  · cases ho
theorem or_ge : OpR X (compareOp .GtE) (rO (zx X cl) oGe) := by
  rintro pins s σ H x y v u Q I rx ry ⟨w, ⟨t, d⟩, ⟨t', d'⟩, z, eH, hw, ha, hb, ho, q⟩
  unfold oGe at ho
  dsimp only at ho
  split at ho
  · cases ho
    rw [cdec_eq] at q
    exact op_ge pins s σ H x y v u Q I rx ry ⟨_, _, rv_int hw ha, rv_int hw hb, fin1 hw eH rfl q⟩
  · cases ho
mutual
theorem dp_of {Z : Zc} {H : Hp} : ∀ {v : V} {d : D}, Rp Z H v d → pyOk d = true → Dp Z.K H v (py d)
  | _, _, .non, _ => .non
  | _, _, .bl b, _ => .bl b
  | _, _, .int i, _ => .int i
  | _, _, .str s, _ => .str s
  | _, _, .lst h r, e => .lst (SqL.of h) (dpAll_of r (by simpa only [pyOk] using e))
  | _, _, .scr h r, e => .lst h (dpAll_of r (by simpa only [pyOk] using e))
  | _, _, .tup h r, e => .tup h (dpAll_of r (by simpa only [pyOk] using e))
  | _, _, .ins _ _ _ _, e => by simp only [pyOk] at e; cases e
  | _, _, .dic _ _ _, e => by simp only [pyOk] at e; cases e
theorem dpAll_of {Z : Zc} {H : Hp} : ∀ {vs : List V} {ds : List D}, RpL Z H vs ds → pyOkL ds = true → DpAll Z.K H vs (pyL ds)
  | _, _, .nil, _ => .nil
  | _, _, .cons h r, e => by
    simp only [pyOkL, Bool.and_eq_true] at e
    exact .cons (dp_of h e.1) (dpAll_of r e.2)
end
/-- what == asks, both ways -/
theorem eqD_cases {K : PySem.W.Frag} {w : Wd} {a b : TD} {x y : V} {k : Bool} {cl : Str → Option Addr} (hw : Wf w) (ha : RV ⟨K, cl⟩ w a x) (hb : RV ⟨K, cl⟩ w b y) (h : eqD a.2 b.2 = some k) :
    (scal x y = true ∧ decide (x = y) = k) ∨ ∃ d e, Dp K w.H x d ∧ Dp K w.H y e ∧ SeqAt.shaped d = true ∧ SeqAt.shaped e = true ∧ PyData.eqv d e = k := by
  obtain ⟨t, d⟩ := a
  obtain ⟨t', d'⟩ := b
  unfold eqD at h
  dsimp only at h
  split at h
  · cases h; rw [rv_int hw ha, rv_int hw hb]; exact .inl ⟨rfl, by simp only [V.int.injEq]⟩
  · cases h; rw [rv_str hw ha, rv_str hw hb]; exact .inl ⟨rfl, by simp only [V.str.injEq]⟩
  · cases h; rw [rv_bl hw ha, rv_bl hw hb]; exact .inl ⟨rfl, by simp only [V.bl.injEq]⟩
  · cases h; rw [rv_non hw ha, rv_non hw hb]; exact .inl ⟨rfl, by simp⟩
  · cases h; rw [rv_int hw ha, rv_non hw hb]; exact .inl ⟨rfl, by simp⟩
  · cases h; rw [rv_non hw ha, rv_int hw hb]; exact .inl ⟨rfl, by simp⟩
  · cases h; rw [rv_str hw ha, rv_non hw hb]; exact .inl ⟨rfl, by simp⟩
  · cases h; rw [rv_non hw ha, rv_str hw hb]; exact .inl ⟨rfl, by simp⟩
  · cases h; rw [rv_int hw ha, rv_str hw hb]; exact .inl ⟨rfl, by simp⟩
  · cases h; rw [rv_str hw ha, rv_int hw hb]; exact .inl ⟨rfl, by simp⟩
  · split at h
    · rename_i hc
      cases h
      simp only [Bool.and_eq_true] at hc
      exact .inr ⟨_, _, dp_of (ha.top hw) hc.1.1.1, dp_of (hb.top hw) hc.1.1.2, hc.1.2, hc.2, rfl⟩
    · cases h
theorem or_eq (hX : XS X) : OpR X (compareOp .Eq) (rO (zx X cl) oEq) := by
  rintro pins s σ H x y v u Q I rx ry ⟨w, a, b, z, eH, hw, ha, hb, ho, q⟩
  obtain ⟨k, hk, rfl⟩ := Option.map_eq_some_iff.mp ho
  have hu := hX.hu
  rcases eqD_cases hw ha hb hk with ⟨h1, h2⟩ | ⟨d, e, h1, h2, h3, h4, h5⟩
  · exact op_eq pins s σ H x y v u Q I rx ry ⟨h1, by rw [h2]; exact fin1 hw eH (d := .bl k) rfl q⟩
  · subst eH
    exact op_eqD (by omega) pins s σ _ x y v u Q I rx ry ⟨d, e, h1, h2, h3, h4, by rw [h5]; exact fin1 hw rfl (d := .bl k) rfl q⟩
theorem or_ne (hX : XS X) : OpR X (compareOp .NotEq) (rO (zx X cl) oNe) := by
  rintro pins s σ H x y v u Q I rx ry ⟨w, a, b, z, eH, hw, ha, hb, ho, q⟩
  obtain ⟨k, hk, rfl⟩ := Option.map_eq_some_iff.mp ho
  have hu := hX.hu
  rcases eqD_cases hw ha hb hk with ⟨h1, h2⟩ | ⟨d, e, h1, h2, h3, h4, h5⟩
  · exact op_ne pins s σ H x y v u Q I rx ry ⟨h1, by rw [h2]; exact fin1 hw eH (d := .bl (!k)) rfl q⟩
  · subst eH
    exact op_neD (by omega) pins s σ _ x y v u Q I rx ry ⟨d, e, h1, h2, h3, h4, by rw [h5]; exact fin1 hw rfl (d := .bl (!k)) rfl q⟩
theorem flat_vOf {d : D} (h : isS d = true) : flatV (vOf d) = true := by cases d <;> first | rfl | exact absurd h (by simp [isS])
theorem inV_any {Z : Zc} {H : Hp} {vs : List V} {ds : List D} {a : D} (r : RpL Z H vs ds) (h : ds.all isS = true) : inV (vOf a) vs = ds.any fun y => eqS y a := by
  rw [rpL_vals r h]
  unfold inV eqS
  rw [List.any_map] <;> rfl
theorem flat_all {Z : Zc} {H : Hp} {vs : List V} {ds : List D} (r : RpL Z H vs ds) (h : ds.all isS = true) : vs.all flatV = true := by
  rw [rpL_vals r h, List.all_map, List.all_eq_true]
  intro d hd
  exact flat_vOf (List.all_eq_true.mp h d hd)
theorem rv_dic {Z : Zc} {w : Wd} (hw : Wf w) {t : Tg} {ks : List Key} {ds : List D} {v : V} (h : RV Z w (t, .dic ks ds) v) : ∃ a vs, v = .ref a ∧ Rd w.H a (.dK (ks.zip vs)) ∧ vs.length = ks.length ∧ RpL Z (w.rd (el t)) vs ds := by
  cases t with
  | O => obtain ⟨p, vs, ds, e, e2, _⟩ := h; cases e2
  | N => cases h with | dic h l r => exact ⟨_, _, rfl, rd_mono hw.nh h, l, r⟩
  | B => cases h with | dic h l r => exact ⟨_, _, rfl, rd_mono hw.bh h, l, r⟩
  | T => cases h with | dic h l r => exact ⟨_, _, rfl, h, l, r⟩
/-- in, of a dict -/
theorem inD_dic {K : PySem.W.Frag} {w : Wd} {a b : TD} {x y : V} {k : Bool} {cl : Str → Option Addr} (hw : Wf w) (ha : RV ⟨K, cl⟩ w a x) (hb : RV ⟨K, cl⟩ w b y) {ks : List Key} {ds : List D} (e : b.2 = .dic ks ds) (h : inD a.2 b.2 = some k) :
    ∃ p o, y = .ref p ∧ DGet w.H p x o ∧ o.isSome = k := by
  obtain ⟨t, d⟩ := a
  obtain ⟨t', d'⟩ := b
  have e : d' = .dic ks ds := e
  subst e
  obtain ⟨p, vs, rfl, h1, h2, h3⟩ := rv_dic hw hb
  obtain ⟨q, hq, rfl⟩ := Option.map_eq_some_iff.mp (show (keyD d).map (fun q => hasK ks q) = some k from h)
  obtain ⟨s1, s2⟩ := keyD_v hq
  have hx := rv_s hw s1 ha
  subst hx
  refine ⟨p, _, rfl, .inl ⟨_, q, h1, s2, rfl⟩, ?_⟩
  rw [dgt_val, dgt_some h2]
theorem inD_seq {K : PySem.W.Frag} {w : Wd} {a b : TD} {x y : V} {k : Bool} {cl : Str → Option Addr} (hw : Wf w) (ha : RV ⟨K, cl⟩ w a x) (hb : RV ⟨K, cl⟩ w b y) (hd : ∀ ks ds, b.2 ≠ .dic ks ds) (h : inD a.2 b.2 = some k) :
    (∃ p xs, y = .ref p ∧ (SqL K w.H p xs ∨ SqT K w.H p xs) ∧ flatV x = true ∧ xs.all flatV = true ∧ inV x xs = k) ∨ ∃ (c : Nat) (z : Str), x = .str ⟨#[c]⟩ ∧ y = .str z ∧ decide (c ∈ z.cps.toList) = k := by
  obtain ⟨t, d⟩ := a
  obtain ⟨t', d'⟩ := b
  unfold inD at h
  dsimp only at h
  split at h
  · split at h
    · rename_i xs hc
      cases h
      simp only [Bool.and_eq_true] at hc
      obtain ⟨p, vs, rfl, h1, h2⟩ := hb.lst hw
      rw [rv_s hw hc.1 ha]
      exact .inl ⟨p, vs, rfl, .inl (SqL.of h1), flat_vOf hc.1, flat_all h2 hc.2, inV_any h2 hc.2⟩
    · cases h
  · split at h
    · rename_i xs hc
      cases h
      simp only [Bool.and_eq_true] at hc
      obtain ⟨p, vs, rfl, h1, h2⟩ := hb.scr hw
      rw [rv_s hw hc.1 ha]
      exact .inl ⟨p, vs, rfl, .inl h1, flat_vOf hc.1, flat_all h2 hc.2, inV_any h2 hc.2⟩
    · cases h
  · split at h
    · rename_i xs hc
      cases h
      simp only [Bool.and_eq_true] at hc
      obtain ⟨p, vs, rfl, h1, h2⟩ := hb.tup hw
      rw [rv_s hw hc.1 ha]
      exact .inl ⟨p, vs, rfl, .inr h1, flat_vOf hc.1, flat_all h2 hc.2, inV_any h2 hc.2⟩
    · cases h
  · split at h
    · split at h
      · rename_i z _ s0 hl
        cases h
        rw [rv_str hw ha, rv_str hw hb]
        refine .inr ⟨s0.cps.getD 0 0, z, ?_, rfl, rfl⟩
        obtain ⟨arr⟩ := s0
        have hs : arr.size = 1 := hl
        obtain ⟨l⟩ := arr
        match l, hs with
        | [c], _ => rfl
      · cases h
    · cases h
  · exact absurd rfl (hd _ _)
  · cases h
theorem or_in (hX : XS X) : OpR X (compareOp .In) (rO (zx X cl) oIn) := by
  rintro pins s σ H x y v u Q I rx ry ⟨w, a, b, z, eH, hw, ha, hb, ho, q⟩
  obtain ⟨k, hk, rfl⟩ := Option.map_eq_some_iff.mp ho
  subst eH
  by_cases hd : ∃ ks ds, b.2 = .dic ks ds
  · obtain ⟨ks, ds, e⟩ := hd
    obtain ⟨p, o, rfl, h1, h2⟩ := inD_dic hw ha hb e hk
    obtain rfl : u = Value.ref p := ry
    exact d_in (by have := hX.hu; omega) I h1 rx fun s1 I1 => ⟨.bl (o.isSome), w.H, I1, rfl, by rw [h2]; exact fin1 hw rfl (d := .bl k) rfl q⟩
  rcases inD_seq hw ha hb (fun ks ds e => hd ⟨ks, ds, e⟩) hk with ⟨p, xs, e1, h2, h3, h4, h5⟩ | ⟨c, z, e1, e2, h5⟩
  · exact op_in_seq pins s σ _ x y v u Q I rx ry ⟨p, xs, e1, h2, h3, h4, by rw [h5]; exact fin1 hw rfl (d := .bl k) rfl q⟩
  · exact op_in_sign pins s σ _ x y v u Q I rx ry ⟨c, z, e1, e2, by rw [h5]; exact fin1 hw rfl (d := .bl k) rfl q⟩
end
end Vf
namespace Vf
open PySem L2
abbrev FL := Ev → Option (Tg × List D)
/-- a new list, not yet handed to anybody -/
def tL (Z : Zc) (f : FL) : TE := fun σ H Q => ∃ env w t ds, w.H = H ∧ Wok Z env σ w ∧ f env = some (t, ds) ∧ t ≠ .O ∧
  ∀ p vs w', Gr w w' → w.H p = none → w'.H p = some (.lst vs) → w'.B p = none → RpL Z (w'.rd t) vs ds → Q (.ref p) w'.H
@[simp] def sL (f : FL) : FE := fun env => (f env).bind fun r => if r.1 = .O then none else some (r.1, .lst r.2)
@[simp] def sLd (g : FA) : FL := fun env => (g env).bind fun rs => if rs.length ≤ lim then some (tagL rs, rs.map (·.2)) else none
@[simp] def sTp (g : FA) : FE := fun env => (g env).bind fun rs => if rs.length ≤ lim then some (tagL rs, .tup (rs.map (·.2))) else none
@[simp] def sLo (o : TD → TD → Option (Tg × List D)) (f g : FE) : FL := fun env => (f env).bind fun x => (g env).bind fun y => o x y
def lstOf (a : TD) : Option (Tg × List D) := match a.2 with
  | .lst xs => some (el a.1, xs)
  | .scr xs => some (el a.1, xs)
  | .tup xs => some (el a.1, xs)
  | _ => none
@[simp] def sLb (o : List TD → Option (Tg × List D)) (g : FA) : FL := fun env => (g env).bind o
def listB (rs : List TD) : Option (Tg × List D) := match rs with | [a] => lstOf a | _ => none
def cutD (xs : List D) (lo hi : Option Int) : List D := (xs.drop (HT.sIx xs.length 0 lo)).take (HT.sIx xs.length xs.length hi - HT.sIx xs.length 0 lo)
abbrev FO := Ev → Option (Option Int)
@[simp] def sNoP : FO := fun _ => some none
def sPt (f : FE) : FO := fun env => (f env).bind fun r => match r.2 with | .int i => some (some i) | _ => none
def slD (x : TD) (lo hi : Option Int) : Option TD := match x.2 with
  | .lst xs => some (el x.1, .lst (cutD xs lo hi))
  | .scr xs => some (el x.1, .lst (cutD xs lo hi))
  | .str z => if z.length ≤ lim then some (.N, .str (cutS z lo hi)) else none
  | .tup xs => some (el x.1, .tup (cutD xs lo hi))
  | _ => none
@[simp] def sSl (f : FE) (l h : FO) : FE := fun env => (f env).bind fun x => (l env).bind fun lo => (h env).bind fun hi => slD x lo hi
section
variable {Z : Zc} {w : Wd} {H : Hp}
/-- a list that is laid now, as a new list -/
theorem laid_new {Q : VK} {t : Tg} {ds : List D} {vs : List V} (hw : Wf w) (q : ∀ p vs w', Gr w w' → w.H p = none → w'.H p = some (.lst vs) → w'.B p = none → RpL Z (w'.rd t) vs ds → Q (.ref p) w'.H) (r : RpL Z (w.rd t) vs ds)
    (p : Addr) (hp : w.H p = none) : Q (.ref p) (upd w.H p (.lst vs)) := by
  have g := Gr.put hw (t := .T) (o := .lst vs) hp
  exact q p vs (w.put .T p (.lst vs)) g hp upd_same (hw.bh.free hp) (RpL.mono (rd_gr g t) r)
theorem cutD_all {xs : List D} {lo hi : Option Int} (h : HT.sIx xs.length 0 lo = 0 ∧ HT.sIx xs.length xs.length hi = xs.length) : cutD xs lo hi = xs := by
  unfold cutD
  rw [h.1, h.2]
  simp
theorem cutV_rp {vs : List V} {ds : List D} (r : RpL Z H vs ds) (lo hi : Option Int) : RpL Z H (cutV vs lo hi) (cutD ds lo hi) := by
  unfold cutV cutD
  rw [r.length]
  exact (r.drop _).take _
end
section
variable {X : Cx} {cl : Str → Option Addr} {a b c : Expr} {es : List Expr} {f g h : FE} {fa : FA} {fl : FL} {l1 l2 : FO} {lo hi : Option Expr} {pos : Pos}
theorem je_l (ha : PE X a (tL (zx X cl) fl)) : PE X a (tE (zx X cl) (sL fl)) := by
  refine pe_w ha fun σ H Q ⟨env, w, r, e, k, hr, q⟩ => ?_
  obtain ⟨⟨t, ds⟩, h1, h2⟩ := Option.bind_eq_some_iff.mp hr
  dsimp only at h2
  split at h2
  · cases h2
  · rename_i ht
    cases h2
    refine ⟨env, w, t, ds, e, k, h1, ht, fun p vs w' g1 hp hH hB r => ?_⟩
    obtain ⟨w2, g2, e2, r2⟩ := adopt g1 ht hp hH hB r
    rw [← e2]
    exact q _ w2 g2 r2
theorem jl_d (h : PA X es (tA (zx X cl) fa)) : PE X (.List es pos) (tL (zx X cl) (sLd fa)) := by
  refine pe_w (pe_lst h) fun σ H Q ⟨env, w, t, ds, e, k, hr, ht, q⟩ => ?_
  subst e
  obtain ⟨rs, h1, h2⟩ := Option.bind_eq_some_iff.mp hr
  split at h2
  · rename_i hl
    cases h2
    refine ⟨env, w, rs, rfl, k, h1, fun vs w1 g1 r1 => ⟨lim_le (by rw [r1.length]; exact hl), fun p hp => ?_⟩⟩
    exact laid_new g1.wf (fun p vs w' g2 hp' => q p vs w' (g1.trans g2) (g1.h.free hp')) (rvs_items g1.wf r1) p hp
  · cases h2
theorem je_tup {x1 : Nat} (h : PA X es (tA (zx X cl) fa)) : PE X (.Tuple es x1 pos) (tE (zx X cl) (sTp fa)) := by
  refine pe_w (pe_tup h) fun σ H Q ⟨env, w, r, e, k, hr, q⟩ => ?_
  subst e
  obtain ⟨rs, h1, h2⟩ := Option.bind_eq_some_iff.mp hr
  split at h2
  · rename_i hl
    cases h2
    refine ⟨env, w, rs, rfl, k, h1, fun vs w1 g1 r1 => ⟨lim_le (by rw [r1.length]; exact hl), fun p hp => ?_⟩⟩
    have := q _ _ (g1.trans (Gr.put g1.wf hp)) (new_tup g1.wf (tagL_ne rs) hp (rvs_items g1.wf r1))
    rw [put_H] at this
    exact this
  · cases h2
/-- list(x) -/
def rCL (Z : Zc) (o : List TD → Option (Tg × List D)) : List V → Hp → VK → Prop := fun xs H Q => ∃ w rs t ds, w.H = H ∧ Wf w ∧ RVs Z w rs xs ∧ o rs = some (t, ds) ∧ t ≠ .O ∧
  ∀ p vs w', Gr w w' → w.H p = none → w'.H p = some (.lst vs) → w'.B p = none → RpL Z (w'.rd t) vs ds → Q (.ref p) w'.H
theorem lst_of {Z : Zc} {w : Wd} {a : TD} {v : V} {t : Tg} {ds : List D} (hw : Wf w) (h : RV Z w a v) (e : lstOf a = some (t, ds)) : ∃ p vs, v = .ref p ∧ (SqL Z.K w.H p vs ∨ SqT Z.K w.H p vs) ∧ RpL Z (w.rd t) vs ds := by
  obtain ⟨u, d⟩ := a
  unfold lstOf at e
  dsimp only at e
  split at e
  · cases e
    obtain ⟨p, vs, rfl, h1, h2⟩ := h.lst hw
    exact ⟨p, vs, rfl, .inl (SqL.of h1), h2⟩
  · cases e
    obtain ⟨p, vs, rfl, h1, h2⟩ := h.scr hw
    exact ⟨p, vs, rfl, .inl h1, h2⟩
  · cases e
    obtain ⟨p, vs, rfl, h1, h2⟩ := h.tup hw
    exact ⟨p, vs, rfl, .inr h1, h2⟩
  · cases e
theorem rvs1 {Z : Zc} {w : Wd} {a : TD} {xs : List V} (h : RVs Z w [a] xs) : ∃ v, xs = [v] ∧ RV Z w a v := by
  match xs, h with
  | [v], h => exact ⟨v, rfl, h.1⟩
theorem rvs2 {Z : Zc} {w : Wd} {a b : TD} {xs : List V} (h : RVs Z w [a, b] xs) : ∃ v u, xs = [v, u] ∧ RV Z w a v ∧ RV Z w b u := by
  match xs, h with
  | [v, u], h => exact ⟨v, u, rfl, h.1, h.2.1⟩
theorem crl_list : CallR X (.type "list") (rCL (zx X cl) listB) := by
  rintro pins s σ H xs us Q I r ⟨w, rs, t, ds, eH, hw, hr, ho, ht, q⟩
  unfold listB at ho
  split at ho
  · obtain ⟨v, rfl, hv⟩ := rvs1 hr
    obtain ⟨p, vs, rfl, h1, h2⟩ := lst_of hw hv ho
    subst eH
    exact call_list_of pins s σ w.H _ us Q I r ⟨p, vs, rfl, h1, fun np hnp => laid_new hw q h2 np hnp⟩
  · cases ho
theorem jl_ty {T : String} {x : Str} {p : Pos} {o : List TD → Option (Tg × List D)} (hc : CallR X (.type T) (rCL (zx X cl) o)) (hm : X.mg x = none) (hv : bootBuiltins x = some (.type T)) (ha : PA X (a :: es) (tA (zx X cl) fa)) (hg : Gl X x := by rfl)
    (hn : x ≠ "__name__" := by decide) (hdb : (x == ("__debug__" : Str)) = false := by decide) (he : starEach (a :: es) X.env = (false, eval a X.env) :: starEach es X.env := by rfl) (hpl : (backTo pos (starEach es X.env)).any (·.1) = false := by rfl) :
    PE X (.Call (.Name x p) (a :: es) [] pos) (tL (zx X cl) (sLb o fa)) := by
  refine pe_w (pe_callTy hc hg hm hv ha hn hdb he hpl) fun σ H Q ⟨env, w, t, ds, e, k, hr, ht, q⟩ => ?_
  subst e
  obtain ⟨rs, h1, h2⟩ := Option.bind_eq_some_iff.mp hr
  exact ⟨env, w, rs, rfl, k, h1, fun vs w1 g1 r1 => ⟨w1, rs, t, ds, rfl, g1.wf, r1, h2, ht, fun p vs w' g2 hp' => q p vs w' (g1.trans g2) (g1.h.free hp')⟩⟩
/-! subscripts -/
theorem atI_rp {Z : Zc} {H : Hp} {vs : List V} {ds : List D} {i : Int} {d : D} (r : RpL Z H vs ds) (h : atI ds i = some d) : ∃ v, atI vs i = some v ∧ Rp Z H v d := by
  unfold atI at h ⊢
  rw [r.length]
  obtain ⟨j, h1, h2⟩ := Option.bind_eq_some_iff.mp h
  obtain ⟨v, h3, h4⟩ := r.get h2
  exact ⟨v, by rw [h1]; exact h3, h4⟩
theorem ix_dict (hX : XS X) : IxR X (fun x y H Q => ∃ a v, x = .ref a ∧ DGet H a y (some v) ∧ Q v H) := by
  rintro value slice pins s σ H x y v u Q I rx ry ⟨a, r, rfl, g, q⟩ hs
  obtain rfl : v = Value.ref a := rx
  exact PyProof.Rows.tail_any (dict_typeIs I g) PySem.F.slot_dict_getitem.lookup (d_getItem (by have := hX.hu; omega) I g ry fun w' s3 I3 rw' => ⟨r, H, I3, rw', q⟩) hs
theorem ix_dd (hX : XS X) {w : Wd} {t t' : Tg} {d' : D} {ks : List Key} {ds : List D} {k : Key} {d0 : D} {x y : V} (hw : Wf w) (ha : RV (zx X cl) w (t, .dic ks ds) x) (hb : RV (zx X cl) w (t', d') y) (h1 : keyD d' = some k) (h3 : dgt ks ds k = some d0) :
    ∃ a v, x = .ref a ∧ DGet w.H a y (some v) ∧ RV (zx X cl) w (nm (el t, d0)) v := by
  obtain ⟨p, vs, rfl, h4, h5, h6⟩ := rv_dic hw ha
  obtain ⟨s1, s2⟩ := keyD_v h1
  obtain rfl := rv_s hw s1 hb
  obtain ⟨v0, h7, h8⟩ := dgt_rp h6 h3
  exact ⟨p, v0, rfl, .inl ⟨_, k, h4, s2, by rw [dgt_val, h7]⟩, RV.nm hw (RV.of (el_ne t) h8)⟩
theorem ix_d (hX : XS X) : IxR X (rO (zx X cl) oIx) := by
  rintro value slice pins s σ H x y v u Q I rx ry ⟨w, ⟨t, d⟩, ⟨t', d'⟩, z, eH, hw, ha, hb, ho, q⟩ hs
  unfold oIx at ho
  dsimp only at ho
  split at ho
  · rename_i i
    have ei := rv_int hw hb
    unfold ixD at ho
    dsimp only at ho
    subst eH
    split at ho
    · obtain ⟨d0, h1, rfl⟩ := Option.map_eq_some_iff.mp ho
      obtain ⟨p, vs, rfl, h3, h4⟩ := ha.lst hw
      obtain ⟨v0, h5, h6⟩ := atI_rp h4 h1
      exact ix_list value slice pins s σ _ _ _ v u Q I rx ry ⟨p, vs, i, v0, rfl, ei, SqL.of h3, h5, q v0 w (Gr.refl hw) (RV.nm hw (RV.of (el_ne t) h6))⟩ hs
    · obtain ⟨d0, h1, rfl⟩ := Option.map_eq_some_iff.mp ho
      obtain ⟨p, vs, rfl, h3, h4⟩ := ha.scr hw
      obtain ⟨v0, h5, h6⟩ := atI_rp h4 h1
      exact ix_list value slice pins s σ _ _ _ v u Q I rx ry ⟨p, vs, i, v0, rfl, ei, h3, h5, q v0 w (Gr.refl hw) (RV.nm hw (RV.of (el_ne t) h6))⟩ hs
    · obtain ⟨d0, h1, rfl⟩ := Option.map_eq_some_iff.mp ho
      obtain ⟨p, vs, rfl, h3, h4⟩ := ha.tup hw
      obtain ⟨v0, h5, h6⟩ := atI_rp h4 h1
      exact ix_tup value slice pins s σ _ _ _ v u Q I rx ry ⟨p, vs, i, v0, rfl, ei, h3, h5, q v0 w (Gr.refl hw) (RV.nm hw (RV.of (el_ne t) h6))⟩ hs
    · split at ho
      · rename_i hl
        obtain ⟨c, h1, rfl⟩ := Option.map_eq_some_iff.mp ho
        exact ix_str value slice pins s σ _ _ _ v u Q I rx ry ⟨_, i, c, rv_str hw ha, ei, lim_le hl, h1, fin1 hw rfl (d := .str ⟨#[c]⟩) rfl q⟩ hs
      · cases ho
    · obtain ⟨d0, h1, rfl⟩ := Option.map_eq_some_iff.mp ho
      obtain ⟨p, v0, rfl, g, rv⟩ := ix_dd hX hw ha hb rfl h1
      exact ix_dict hX value slice pins s σ _ _ _ v u Q I rx ry ⟨p, v0, rfl, g, q v0 w (Gr.refl hw) rv⟩ hs
    · cases ho
  · unfold ixS at ho
    dsimp only at ho
    subst eH
    split at ho
    · obtain ⟨d0, h1, rfl⟩ := Option.map_eq_some_iff.mp ho
      obtain ⟨p, v0, rfl, g, rv⟩ := ix_dd hX hw ha hb rfl h1
      exact ix_dict hX value slice pins s σ _ _ _ v u Q I rx ry ⟨p, v0, rfl, g, q v0 w (Gr.refl hw) rv⟩ hs
    · cases ho
  · cases ho
theorem je_ix (hX : XS X) (ha : PE X a (tE (zx X cl) f)) (hb : PE X b (tE (zx X cl) g)) (hs : PlainIx b := by exact fun _ _ => rfl) : PE X (.Subscript a b pos) (tE (zx X cl) (sOp oIx f g)) :=
  pe_w (pe_ix (ix_d hX) ha hb hs) fun _ _ _ hh => sOp_rd hh
/-! slices -/
def tO (Z : Zc) (f : FO) : TO := fun σ H Q => ∃ env w r, w.H = H ∧ Wok Z env σ w ∧ f env = some r ∧ ∀ w', Gr w w' → Q r w'.H
theorem jo_none : PO X none (tO (zx X cl) sNoP) := by
  refine ⟨fun pins s σ H Q I ⟨env, w, r, e, k, hr, q⟩ => po_none.run pins s σ H Q I ?_⟩
  subst e
  cases hr
  exact q w (Gr.refl k.wf)
theorem jo_some (ha : PE X a (tE (zx X cl) f)) : PO X (some a) (tO (zx X cl) (sPt f)) := by
  refine ⟨fun pins s σ H Q I ⟨env, w, r, e, k, hr, q⟩ => (po_some ha).run pins s σ H Q I ?_⟩
  subst e
  obtain ⟨⟨t, d⟩, h1, h2⟩ := Option.bind_eq_some_iff.mp hr
  dsimp only at h2
  split at h2
  · cases h2
    exact ⟨env, w, _, rfl, k, h1, fun v w1 g1 r1 => ⟨_, rv_int g1.wf r1, q w1 g1⟩⟩
  · cases h2
def rSD (Z : Zc) : V → Option Int → Option Int → Hp → VK → Prop := fun x lo hi H Q => ∃ w rx z, w.H = H ∧ Wf w ∧ RV Z w rx x ∧ slD rx lo hi = some z ∧ ∀ v w', Gr w w' → RV Z w' z v → Q v w'.H
theorem sl_d : SlR X (rSD (zx X cl)) := by
  rintro pins s σ H x v vl vu lo hi sl Q I rx hs pl pu ⟨w, ⟨t, d⟩, z, eH, hw, ha, ho, q⟩
  unfold slD at ho
  dsimp only at ho
  subst eH
  split at ho
  · cases ho
    obtain ⟨p, vs, rfl, h3, h4⟩ := ha.lst hw
    refine sl_list pins s σ _ _ v vl vu lo hi sl Q I rx hs pl pu ⟨p, vs, rfl, SqL.of h3, fun np hnp => ?_⟩
    have := q _ _ (Gr.put hw (t := el t) hnp) (new_lst hw (el_ne t) hnp (cutV_rp h4 lo hi))
    rw [put_H] at this
    exact this
  · cases ho
    obtain ⟨p, vs, rfl, h3, h4⟩ := ha.scr hw
    refine sl_list pins s σ _ _ v vl vu lo hi sl Q I rx hs pl pu ⟨p, vs, rfl, h3, fun np hnp => ?_⟩
    have := q _ _ (Gr.put hw (t := el t) hnp) (new_lst hw (el_ne t) hnp (cutV_rp h4 lo hi))
    rw [put_H] at this
    exact this
  · split at ho
    · rename_i hl
      cases ho
      exact sl_str pins s σ _ _ v vl vu lo hi sl Q I rx hs pl pu ⟨_, rv_str hw ha, lim_le hl, fin1 hw rfl (d := .str (cutS _ lo hi)) rfl q⟩
    · cases ho
  · cases ho
    have ha' := ha
    obtain ⟨p, vs, rfl, h3, h4⟩ := ha.tup hw
    refine sl_tupA pins s σ _ _ v vl vu lo hi sl Q I rx hs pl pu ⟨p, vs, rfl, h3, fun hc => ?_, fun hc np hnp => ?_⟩
    · have e : cutD _ lo hi = _ := cutD_all (by rw [← h4.length]; exact hc)
      rw [e] at q
      refine q _ w (Gr.refl hw) (RV.of (el_ne t) ?_)
      cases t <;> first | exact ha' | (obtain ⟨_, _, _, _, z, _⟩ := ha'; cases z)
    · have := q _ _ (Gr.put hw (t := el t) hnp) (new_tup hw (el_ne t) hnp (cutV_rp h4 lo hi))
      rw [put_H] at this
      exact this
  · cases ho
theorem je_sl {p2 : Pos} (he : PE X a (tE (zx X cl) f)) (hl : PO X lo (tO (zx X cl) l1)) (hu : PO X hi (tO (zx X cl) l2)) : PE X (.Subscript a (.Slice lo hi none p2) pos) (tE (zx X cl) (sSl f l1 l2)) := by
  refine pe_w (pe_slice (sl_d (cl := cl)) he hl hu) fun σ H Q ⟨env, w, r, e, k, hr, q⟩ => ?_
  subst e
  obtain ⟨x, hx, hr⟩ := Option.bind_eq_some_iff.mp hr
  obtain ⟨y, hy, hr⟩ := Option.bind_eq_some_iff.mp hr
  obtain ⟨z, hz, hr⟩ := Option.bind_eq_some_iff.mp hr
  refine ⟨env, w, x, rfl, k, hx, fun v w1 g1 r1 => ⟨env, w1, y, rfl, k.mono g1, hy, fun w2 g2 => ⟨env, w2, z, rfl, (k.mono g1).mono g2, hz, fun w3 g3 => ?_⟩⟩⟩
  exact ⟨w3, x, r, rfl, g3.wf, (r1.mono g2).mono g3, hr, fun v' w4 g4 r4 => q v' w4 (((g1.trans g2).trans g3).trans g4) r4⟩
/-! built-ins -/
def lenB (rs : List TD) : Option TD := match rs with
  | [a] => match a.2 with
    | .str z => if z.length ≤ lim then some (.N, .int z.length) else none
    | .lst xs => some (.N, .int xs.length)
    | .scr xs => some (.N, .int xs.length)
    | .tup xs => some (.N, .int xs.length)
    | .dic ks _ => some (.N, .int ks.length)
    | _ => none
  | _ => none
theorem cr_len : CallR X (.builtin "len") (rC (zx X cl) lenB) := by
  rintro pins s σ H xs us Q I r ⟨w, rs, z, eH, hw, hr, ho, q⟩
  unfold lenB at ho
  split at ho
  · rename_i a
    obtain ⟨t, d⟩ := a
    obtain ⟨v, rfl, hv⟩ := rvs1 hr
    dsimp only at ho
    subst eH
    split at ho
    · split at ho
      · rename_i hl
        cases ho
        refine call_len pins s σ _ _ us Q I r ⟨v, _, rfl, ?_, fin1 hw rfl (d := .int _) rfl q⟩
        rw [rv_str hw hv]
        exact ⟨lim_le hl, rfl⟩
      · cases ho
    · cases ho
      obtain ⟨p, vs, rfl, h3, h4⟩ := hv.lst hw
      refine call_len pins s σ _ _ us Q I r ⟨_, _, rfl, .inl ⟨vs, SqL.of h3, rfl⟩, ?_⟩
      rw [h4.length]
      exact fin1 hw rfl (d := .int _) rfl q
    · cases ho
      obtain ⟨p, vs, rfl, h3, h4⟩ := hv.scr hw
      refine call_len pins s σ _ _ us Q I r ⟨_, _, rfl, .inl ⟨vs, h3, rfl⟩, ?_⟩
      rw [h4.length]
      exact fin1 hw rfl (d := .int _) rfl q
    · cases ho
      obtain ⟨p, vs, rfl, h3, h4⟩ := hv.tup hw
      refine call_len pins s σ _ _ us Q I r ⟨_, _, rfl, .inr ⟨vs, h3, rfl⟩, ?_⟩
      rw [h4.length]
      exact fin1 hw rfl (d := .int _) rfl q
    · cases ho
      obtain ⟨p, vs, rfl, h3, h5, h4⟩ := rv_dic hw hv
      obtain ⟨u, rfl, ru⟩ := vals1 r
      cases ru
      exact d_len I h3 fun t s' I' => ⟨.int (((_ : List Key).zip vs).length : Nat), w.H, I', ⟨t, rfl⟩, by rw [List.length_zip, h5, Nat.min_self]; exact fin1 hw rfl (d := .int _) rfl q⟩
    · cases ho
  · cases ho
def intB (rs : List TD) : Option TD := match rs with
  | [a] => match a.2 with
    | .int i => some (.N, .int i)
    | .bl k => some (.N, .int (if k then 1 else 0))
    | _ => none
  | _ => none
theorem cr_int : CallR X (.type "int") (rC (zx X cl) intB) := by
  rintro pins s σ H xs us Q I r ⟨w, rs, z, eH, hw, hr, ho, q⟩
  unfold intB at ho
  split at ho
  · rename_i a
    obtain ⟨t, d⟩ := a
    obtain ⟨v, rfl, hv⟩ := rvs1 hr
    dsimp only at ho
    subst eH
    split at ho
    · cases ho
      exact call_int1 pins s σ _ _ us Q I r (.inl ⟨_, by rw [rv_int hw hv], fin1 hw rfl (d := .int _) rfl q⟩)
    · cases ho
      exact call_int1 pins s σ _ _ us Q I r (.inr ⟨_, by rw [rv_bl hw hv], fin1 hw rfl (d := .int _) rfl q⟩)
    · cases ho
  · cases ho
def tupB (rs : List TD) : Option TD := match rs with
  | [a] => match a.2 with
    | .lst xs => some (el a.1, .tup xs)
    | .scr xs => some (el a.1, .tup xs)
    | .tup xs => some a
    | _ => none
  | _ => none
theorem cr_tup : CallR X (.type "tuple") (rC (zx X cl) tupB) := by
  rintro pins s σ H xs us Q I r ⟨w, rs, z, eH, hw, hr, ho, q⟩
  unfold tupB at ho
  split at ho
  · rename_i a
    obtain ⟨t, d⟩ := a
    obtain ⟨v, rfl, hv⟩ := rvs1 hr
    dsimp only at ho
    subst eH
    split at ho
    · cases ho
      obtain ⟨p, vs, rfl, h3, h4⟩ := hv.lst hw
      refine call_tuple_of pins s σ _ _ us Q I r ⟨p, vs, rfl, .inl ⟨SqL.of h3, fun np hnp => ?_⟩⟩
      have := q _ _ (Gr.put hw (t := el t) hnp) (new_tup hw (el_ne t) hnp h4)
      rw [put_H] at this
      exact this
    · cases ho
      obtain ⟨p, vs, rfl, h3, h4⟩ := hv.scr hw
      refine call_tuple_of pins s σ _ _ us Q I r ⟨p, vs, rfl, .inl ⟨h3, fun np hnp => ?_⟩⟩
      have := q _ _ (Gr.put hw (t := el t) hnp) (new_tup hw (el_ne t) hnp h4)
      rw [put_H] at this
      exact this
    · cases ho
      have hv2 := hv
      obtain ⟨p, vs, rfl, h3, h4⟩ := hv.tup hw
      exact call_tuple_of pins s σ _ _ us Q I r ⟨p, vs, rfl, .inr ⟨h3, q _ w (Gr.refl hw) hv2⟩⟩
    · cases ho
  · cases ho
/-- isinstance of a built-in class -/
def tyOf : D → String
  | .non => "NoneType" | .bl _ => "bool" | .int _ => "int" | .str _ => "str" | .lst _ => "list" | .scr _ => "list" | .tup _ => "tuple" | .dic _ _ => "dict" | .ins _ _ _ => ""
def isiD (d : D) (T : String) : Option Bool := match d with
  | .ins _ _ _ => none
  | d => kitB (tyOf d) T
@[simp] def sIsi (T : String) (f : FE) : FE := fun env => (f env).bind fun x => (isiD x.2 T).map fun k => (.N, .bl k)
theorem tyX_of {K : PySem.W.Frag} {cl : Str → Option Addr} {H : Hp} {v : V} {d : D} (h : Rp ⟨K, cl⟩ H v d) (hd : ∀ c fs ds, d ≠ .ins c fs ds) : TyX K H v (.type (tyOf d)) := by
  cases h with
  | non => exact .base .non
  | bl b => exact .base (.bl b)
  | int i => exact .base (.int i)
  | str s => exact .base (.str s)
  | lst h r => exact .base (.lst h)
  | scr h r =>
    rcases h with (h | ⟨o, h⟩) | ⟨o, its, n, hk, hc, _⟩
    · exact .base (.lst h)
    · exact .base (.frz h)
    · exact .kList hk hc
  | tup h r =>
    rcases h with (h | ⟨o, h⟩) | ⟨o, its, n, hk, hc, _⟩
    · exact .base (.tup h)
    · exact .fTuple h
    · exact .kTuple hk hc
  | ins h c l r => exact absurd rfl (hd _ _ _)
  | dic h l r =>
    rcases h with h | ⟨o, h⟩
    · exact .base (.dK h)
    · exact .fDict h
theorem je_isi {T : String} {tn : Str} {p q : Pos} (ha : PE X a (tE (zx X cl) f)) (mi : X.mg "isinstance" = none) (mt : X.mg tn = none) (hT : bootBuiltins tn = some (.type T)) (hgi : Gl X "isinstance" := by rfl) (hgt : Gl X tn := by rfl)
    (hn : tn ≠ "__name__" := by decide) (hdb : (tn == ("__debug__" : Str)) = false := by decide) (he : starEach [a, .Name tn q] X.env = (false, eval a X.env) :: starEach [.Name tn q] X.env := by rfl)
    (hpl : (backTo pos (starEach [.Name tn q] X.env)).any (·.1) = false := by rfl) (he2 : starEach [.Name tn q] X.env = (false, eval (.Name tn q) X.env) :: starEach [] X.env := by rfl) :
    PE X (.Call (.Name "isinstance" p) [a, .Name tn q] [] pos) (tE (zx X cl) (sIsi T f)) := by
  refine pe_w (pe_callB call_isi hgi mi PyProof.Rows.boot_isinstance (pa_cons ha (pa_cons (pe_bltn (v := .ty T) hgt mt hT rfl hn hdb) pa_nil he2) he) (by decide) (by decide) he hpl) fun σ H Q ⟨env, w, r, e, k, hr, q⟩ => ?_
  subst e
  obtain ⟨⟨t, d⟩, h1, h2⟩ := Option.bind_eq_some_iff.mp hr
  obtain ⟨b, h3, rfl⟩ := Option.map_eq_some_iff.mp h2
  refine ⟨env, w, _, rfl, k, h1, fun v w1 g1 r1 => ⟨v, .ty T, .type (tyOf d), .type T, b, rfl, .ty T, ?_, ?_, q _ w1 g1 (nN (.bl b) rfl)⟩⟩
  · refine tyX_of (r1.top g1.wf) fun c fs ds e => ?_
    dsimp only at e h3
    rw [e] at h3
    cases h3
  · refine kit_ty ?_
    dsimp only at h3
    unfold isiD at h3
    split at h3
    · cases h3
    · exact h3
end
end Vf
namespace Vf
open PySem L2
/-! ### statements -/
@[simp] def sNx : FS := fun env => some (.nx env)
def thenO (o : Out) (b : FS) : Option Out := match o with | .nx e => b e | o => some o
@[simp] def sSeq (a b : FS) : FS := fun env => (a env).bind fun o => thenO o b
def setV (i : Nat) (r : TD) (env : Ev) : Option Ev := if i < env.s.length then (match r.1 with
  | .N => some (env.put i (.val .N r.2))
  | .B => some (env.put i (.val .B r.2))
  | _ => none) else none
@[simp] def sSet (i : Nat) (f : FE) : FS := fun env => (f env).bind fun r => (setV i r env).map .nx
def sOwn (i : Nat) (f : FL) : FS := fun env => (f env).bind fun r => if i < env.s.length then (match r.1 with
  | .N => some (.nx (env.put i (.own r.2)))
  | _ => none) else none
@[simp] def sRet (f : FE) : FS := fun env => (f env).map .rt
@[simp] def sRetN : FS := fun _ => some (.rt (.N, .non))
@[simp] def sIf (c : FT) (a b : FS) : FS := fun env => (c env).bind fun k => if k then a env else b env
@[simp] def sDrop (f : FE) : FS := fun env => (f env).map fun _ => .nx env
def sFrz (i : Nat) : FS := fun env => match env.s[i]? with
  | some (.own ds) => some (.nx (env.put i (.val .N (.lst ds))))
  | some _ => some (.nx env)
  | none => none
def sApp (i : Nat) (f : FE) : FS := fun env => match env.s[i]? with
  | some (.own ds) => (f env).bind fun r => match r.1 with
    | .N => if ds.length ≤ lim then some (.nx (env.put i (.own (ds ++ [r.2])))) else none
    | _ => none
  | _ => none
def sExt (i : Nat) (f : FE) : FS := fun env => match env.s[i]? with
  | some (.own ds) => (f env).bind fun r => match r.1, r.2 with
    | .N, .lst es => if ds.length + es.length ≤ lim then some (.nx (env.put i (.own (ds ++ es)))) else none
    | _, _ => none
  | _ => none
def sPut (i : Nat) (g f : FE) : FS := fun env => (f env).bind fun r => match env.s[i]? with
  | some (.own ds) => (g env).bind fun k => match r.1, k.2 with
    | .N, .int j => (ixN ds.length j).map fun n => .nx (env.put i (.own (ds.set n r.2)))
    | _, _ => none
  | _ => none
@[simp] def sBrk : FS := fun env => some (.bk env)
@[simp] def sCnt : FS := fun env => some (.ct env)
@[simp] def sNever : FS := fun _ => none
section
variable {Z : Zc} {env : Ev} {σ : L2.St} {w : Wd}
theorem Wok.setV (k : Wok Z env σ w) {i : Nat} (hi : i < env.s.length) {t : Tg} {d : D} {v : V} (h : t = .N ∧ Rp Z w.N v d ∨ t = .B ∧ Rp Z w.B v d) : Wok Z (env.put i (.val t d)) (σ.set i (some v)) w := by
  refine ⟨k.wf, by simpa using k.len, fun j s e => ?_, fun j j' ds es p hne e1 e2 e3 => ?_, k.tb⟩
  · by_cases hj : i = j
    · subst hj
      rw [List.getElem?_set_self hi] at e
      cases e
      exact ⟨some v, List.getElem?_set_self (by rw [k.len]; exact hi), v, rfl, h⟩
    · rw [List.getElem?_set_ne hj] at e
      obtain ⟨o, h1, h2⟩ := k.sl j s e
      exact ⟨o, by rw [List.getElem?_set_ne hj]; exact h1, h2⟩
  · have n1 : i ≠ j := fun q => by
      subst q
      rw [List.getElem?_set_self hi] at e1
      cases e1
    have n2 : i ≠ j' := fun q => by
      subst q
      rw [List.getElem?_set_self hi] at e2
      cases e2
    rw [List.getElem?_set_ne n1] at e1 e3
    rw [List.getElem?_set_ne n2] at e2 ⊢
    exact k.dj j j' ds es p hne e1 e2 e3
theorem setV_ok (k : Wok Z env σ w) {i : Nat} {r : TD} {e : Ev} {v : V} (h : Vf.setV i r env = some e) (hv : RV Z w r v) : Wok Z e (σ.set i (some v)) w := by
  unfold Vf.setV at h
  split at h
  · rename_i hi
    obtain ⟨t, d⟩ := r
    dsimp only at h
    split at h
    · cases h
      exact k.setV hi (.inl ⟨rfl, hv⟩)
    · cases h
      exact k.setV hi (.inr ⟨rfl, hv⟩)
    · cases h
  · cases h
/-- an own list at p changes -/
theorem Wok.mut (k : Wok Z env σ w) {i : Nat} {ds es : List D} {p : Addr} {vs us : List V} (he : env.s[i]? = some (.own ds)) (hs : σ[i]? = some (some (.ref p))) (hp : w.H p = some (.lst vs)) (hb : w.B p = none) (hpm : p ∉ w.m) (r : RpL Z w.N us es) :
    Wok Z (env.put i (.own es)) σ ⟨w.N, w.B, upd w.H p (.lst us), w.m⟩ ∧ Gs w ⟨w.N, w.B, upd w.H p (.lst us), w.m⟩ := by
  have wf : Wf ⟨w.N, w.B, upd w.H p (.lst us), w.m⟩ := ⟨k.wf.nb, same_up1 k.wf.bh hb⟩
  have hi : i < env.s.length := (List.getElem?_eq_some_iff.mp he).1
  refine ⟨⟨wf, by simpa using k.len, fun j s e => ?_, fun j j' ds' es' q hne e1 e2 e3 => ?_, ?_⟩, ⟨wf, .refl _, .refl _, fun x q => .inl q, List.prefix_refl _, fun _ q => .inl q⟩⟩
  · by_cases hj : i = j
    · subst hj
      rw [List.getElem?_set_self hi] at e
      cases e
      exact ⟨_, hs, p, us, rfl, upd_same, hb, hpm, r⟩
    · rw [List.getElem?_set_ne hj] at e
      obtain ⟨o, h1, h2⟩ := k.sl j s e
      refine ⟨o, h1, ?_⟩
      cases s with
      | un => exact trivial
      | val t d => exact h2
      | han n => exact h2
      | own fs =>
        obtain ⟨p', vs', e', h3, h4, h6, h5⟩ := h2
        subst e'
        have : p' ≠ p := fun q => by
          subst q
          exact k.dj i j ds fs p' hj he e hs h1
        exact ⟨p', vs', rfl, by show upd w.H p (.lst us) p' = _; rw [upd_ne this]; exact h3, h4, h6, h5⟩
  · have f : ∀ {n : Nat} {l : List D}, (env.put i (.own es)).s[n]? = some (.own l) → ∃ l', env.s[n]? = some (.own l') := fun {n l} e => by
      by_cases hn : i = n
      · subst hn
        exact ⟨ds, he⟩
      · rw [List.getElem?_set_ne hn] at e
        exact ⟨l, e⟩
    obtain ⟨l1, g1⟩ := f e1
    obtain ⟨l2, g2⟩ := f e2
    exact k.dj j j' l1 l2 q hne g1 g2 e3
  · refine k.tb.away (.refl _) rfl (fun a _ h => h) fun a ha o h => ?_
    show upd w.H p (.lst us) a = _
    rw [upd_ne (fun q => hpm (by rw [← q]; exact ha))]
    exact h
/-- a new own list -/
theorem Wok.own (k : Wok Z env σ w) {i : Nat} (hi : i < env.s.length) {w' : Wd} (g : Gr w w') {ds : List D} {p : Addr} {vs : List V} (hp : w.H p = none) (h : w'.H p = some (.lst vs)) (hb : w'.B p = none) (r : RpL Z w'.N vs ds) :
    Wok Z (env.put i (.own ds)) (σ.set i (some (.ref p))) w' := by
  have k' := k.mono g
  have hpm : p ∉ w'.m := fun q => k.tb.hh p (by rw [← g.m]; exact q) hp
  refine ⟨g.wf, by simpa using k.len, fun j s e => ?_, fun j j' ds' es' q hne e1 e2 e3 => ?_, k'.tb⟩
  · by_cases hj : i = j
    · subst hj
      rw [List.getElem?_set_self hi] at e
      cases e
      exact ⟨_, List.getElem?_set_self (by rw [k.len]; exact hi), p, vs, rfl, h, hb, hpm, r⟩
    · rw [List.getElem?_set_ne hj] at e
      obtain ⟨o, h1, h2⟩ := k'.sl j s e
      exact ⟨o, by rw [List.getElem?_set_ne hj]; exact h1, h2⟩
  · -- an elder own list stands elsewhere
    have old : ∀ {n : Nat} {l : List D}, i ≠ n → (env.put i (.own ds)).s[n]? = some (.own l) → (σ.set i (some (.ref p)))[n]? ≠ some (some (.ref p)) := fun {n l} hn e z => by
      rw [List.getElem?_set_ne hn] at e z
      obtain ⟨o, h1, p', vs', e', h3, _⟩ := k.sl n _ e
      subst e'
      rw [h1] at z
      cases z
      rw [hp] at h3
      cases h3
    by_cases h1 : i = j
    · subst h1
      rw [List.getElem?_set_self (by rw [k.len]; exact hi)] at e3
      cases e3
      exact old hne e2
    · by_cases h2 : i = j'
      · subst h2
        intro z
        rw [List.getElem?_set_self (by rw [k.len]; exact hi)] at z
        cases z
        exact old h1 e1 e3
      · rw [List.getElem?_set_ne h1] at e1 e3
        rw [List.getElem?_set_ne h2] at e2 ⊢
        exact k.dj j j' ds' es' q hne e1 e2 e3
end
section
variable {X : Cx} {cl : Str → Option Addr} {a b c e : Expr} {es : List Expr} {f g h : FE} {fa : FA} {fl : FL} {ct : FT} {A B : FS} {pos : Pos} {st : Stmt} {rest body orelse : List Stmt}
theorem js_nil : PSs X [] (tS (zx X cl) sNx) := by
  refine pss_w pss_nil fun D σ H ⟨env, w, out, e, k, hr, q⟩ => ?_
  subst e
  cases hr
  exact q σ w (Gs.refl k.wf) k
theorem js_cons (h1 : PS X st (tS (zx X cl) A)) (h2 : PSs X rest (tS (zx X cl) B)) : PSs X (st :: rest) (tS (zx X cl) (sSeq A B)) := by
  refine pss_w (pss_cons h1 h2) fun D σ H ⟨env, w, out, e, k, hr, q⟩ => ?_
  subst e
  obtain ⟨o, h3, h4⟩ := Option.bind_eq_some_iff.mp hr
  refine ⟨env, w, o, rfl, k, h3, ?_⟩
  cases o with
  | nx e' => exact fun σ' w' g' k' => ⟨e', w', out, rfl, k', h4, q.mono g'⟩
  | rt r =>
    cases h4
    exact q
  | bk e' =>
    cases h4
    exact q
  | ct e' =>
    cases h4
    exact q
  | rth x T =>
    cases h4
    exact q
/-- the last statement alone -/
theorem js_one (h1 : PS X st (tS (zx X cl) A)) : PSs X [st] (tS (zx X cl) A) := by
  refine pss_w (js_cons h1 js_nil) fun D σ H ⟨env, w, out, e, k, hr, q⟩ => ⟨env, w, out, e, k, ?_, q⟩
  unfold sSeq
  rw [hr]
  cases out <;> rfl
theorem js_set (i : Nat) {x : Str} {p' : Pos} (hX : XS X) (he : PE X e (tE (zx X cl) f)) (hi : X.N[i]? = some x := by rfl) (hx : Loc X.env.scope x := by first | exact Or.inl rfl | exact Or.inr rfl) (hs : swapsWith e (some (.Name x p')) pos.line X.env = pure false := by rfl)
    (hf : X.fn x = true ∨ X.env.scope.names.lookup x = some .local := by first | exact .inl rfl | exact .inr rfl) : PS X (.Assign [.Name x p'] e pos) (tS (zx X cl) (sSet i f)) := by
  refine ps_w (ps_set hX.nd hi hx he hs hf) fun D σ H ⟨env, w, out, e, k, hr, q⟩ => ?_
  subst e
  obtain ⟨r, h3, h4⟩ := Option.bind_eq_some_iff.mp hr
  obtain ⟨e', h5, rfl⟩ := Option.map_eq_some_iff.mp h4
  refine ⟨env, w, r, rfl, k, h3, fun v w1 g1 r1 => ?_⟩
  exact q _ w1 (g1.gs k.wf) (setV_ok (k.mono g1) h5 r1)
theorem sOwn_rd {i : Nat} {D : Ends} {σ : L2.St} {H : Hp} {Z : Zc} (hh : tS Z (sOwn i fl) D σ H) : tL Z fl σ H fun v H1 => D.nx (σ.set i (some v)) H1 := by
  obtain ⟨env, w, out, e, k, hr, q⟩ := hh
  subst e
  obtain ⟨⟨t, ds⟩, h3, h4⟩ := Option.bind_eq_some_iff.mp hr
  dsimp only at h4
  split at h4
  · rename_i hi
    split at h4
    · cases h4
      exact ⟨env, w, .N, ds, rfl, k, h3, by decide, fun p vs w1 g1 hp hH hB r => q _ w1 (g1.gs k.wf) (k.own hi g1 hp hH hB r)⟩
    · cases h4
  · cases h4
theorem js_own (i : Nat) {x : Str} {p' : Pos} (hX : XS X) (he : PE X e (tL (zx X cl) fl)) (hi : X.N[i]? = some x := by rfl) (hx : Loc X.env.scope x := by first | exact Or.inl rfl | exact Or.inr rfl) (hs : swapsWith e (some (.Name x p')) pos.line X.env = pure false := by rfl)
    (hf : X.fn x = true ∨ X.env.scope.names.lookup x = some .local := by first | exact .inl rfl | exact .inr rfl) : PS X (.Assign [.Name x p'] e pos) (tS (zx X cl) (sOwn i fl)) :=
  ps_w (ps_set hX.nd hi hx he hs hf) fun _ _ _ hh => sOwn_rd hh
theorem js_ret (he : PE X e (tE (zx X cl) f)) : PS X (.Return (some e) pos) (tS (zx X cl) (sRet f)) := by
  refine ps_w (ps_ret he) fun D σ H ⟨env, w, out, e, k, hr, q⟩ => ?_
  subst e
  obtain ⟨r, h3, rfl⟩ := Option.map_eq_some_iff.mp hr
  exact ⟨env, w, r, rfl, k, h3, fun v w1 g1 r1 => q v w1 (g1.gs k.wf) r1⟩
theorem js_if (hc : PT X c (tT (zx X cl) ct)) (ha : PSs X body (tS (zx X cl) A)) (hb : PSs X orelse (tS (zx X cl) B)) : PS X (.If c body orelse pos) (tS (zx X cl) (sIf ct A B)) := by
  refine ps_w (ps_if hc ha hb) fun D σ H ⟨env, w, out, e, k, hr, q⟩ => ?_
  subst e
  obtain ⟨r, h3, h4⟩ := Option.bind_eq_some_iff.mp hr
  refine ⟨env, w, r, rfl, k, h3, fun w1 g1 => ?_⟩
  cases r with
  | true => exact ⟨env, w1, out, rfl, k.mono g1, h4, q.mono (g1.gs k.wf)⟩
  | false => exact ⟨env, w1, out, rfl, k.mono g1, h4, q.mono (g1.gs k.wf)⟩
theorem js_app (i : Nat) {x : Str} {px apos cpos : Pos} (he : PE X e (tE (zx X cl) f)) (hN : X.N[i]? = some x := by rfl) (hv : Vis X.env.scope x := by first | exact Or.inl rfl | exact Or.inr (Or.inl rfl) | exact Or.inr (Or.inr rfl))
    (hd : (x == ("__debug__" : Str)) = false := by decide) (hcd : (x == ("__classdict__" : Str)) = false := by decide) (hbase : attributeBase (.Name x px) "append" X.env (eval (.Name x px) X.env) = eval (.Name x px) X.env := by rfl)
    (hline : (apos.endLine == cpos.line) = true := by rfl) (hs : starEach [e] X.env = (false, eval e X.env) :: starEach [] X.env := by rfl)
    (hfew : ((backTo cpos (starEach [e] X.env)).all (fun x => !x.1) && (backToKw cpos (keywordEach [] X.env)).all (fun x => x.1.isSome) && decide ([e].length + ([] : List Keyword).length + (if ([] : List Keyword).isEmpty then 0 else 1) < 30)) = true := by rfl) :
    PS X (.Expr (.Call (.Attribute (.Name x px) "append" apos) [e] [] cpos) pos) (tS (zx X cl) (sApp i f)) := by
  refine ps_w (ps_expr (pe_bm PySem.F.plainAttrs_list PySem.F.slot_list_append PySem.F.type_list_append mt_append (pe_var hN hv hd hcd) (pa_cons he pa_nil hs) hbase hfew hline hs rfl)) fun D σ H ⟨env, w, out, e, k, hr, q⟩ => ?_
  subst e
  unfold sApp at hr
  split at hr
  · rename_i ds henv
    obtain ⟨r, h3, h4⟩ := Option.bind_eq_some_iff.mp hr
    obtain ⟨o, ho, p, vs, rfl, h5, h6, hpm, h7⟩ := k.sl i _ henv
    refine ⟨.ref p, ho, .inl ⟨rfl, _, SqL.of h5⟩, env, w, r, rfl, k, h3, fun v w1 g1 r1 => ?_⟩
    obtain ⟨t, d⟩ := r
    dsimp only at h4
    split at h4
    · split at h4
      · rename_i hl
        cases h4
        refine ⟨p, vs, v, rfl, rfl, g1.h _ _ h5, lim_lt (by rw [h7.length]; exact hl), ?_⟩
        obtain ⟨k2, g2⟩ := (k.mono g1).mut (us := vs ++ [v]) (es := ds ++ [d]) henv ho (g1.h _ _ h5) (own_mono g1 h5 h6) (by rw [g1.m]; exact hpm) ((RpL.mono g1.n h7).append (.cons r1 .nil))
        exact q σ _ ((g1.gs k.wf).trans g2) k2
      · cases h4
    · cases h4
  · cases hr
/-! ### what a for walks -/
abbrev WG := Wd → Wd → Prop
structure Wk (G : WG) (Z : Zc) (J : It) (w : Wd) (items : List TD) : Prop where
  stop : ∀ w', G w w' → J.stop items.length w'.H
  go : ∀ (i : Nat) (r : TD) (w' : Wd), G w w' → items[i]? = some r → J.go i w'.H ∧ ∀ x H', J.yld i w'.H x H' → ∃ w2, Gr w' w2 ∧ w2.H = H' ∧ RV Z w2 r x
structure Gwf (G : WG) : Prop where
  wf : ∀ w w', G w w' → Wf w'
theorem gwf_s : Gwf Gs := ⟨fun _ _ g => g.wf⟩
theorem gwf_r : Gwf Gr := ⟨fun _ _ g => g.wf⟩
abbrev FI := Ev → Option (List TD)
def tI (G : WG) (Z : Zc) (fi : FI) : TI := fun σ H R => ∃ env w items, w.H = H ∧ Wok Z env σ w ∧ fi env = some items ∧ ∀ J w', Gr w w' → Wk G Z J w' items → R J w'.H
theorem pi_w {tg iter : Expr} {t t' : TI} (h : PI X tg iter t) (hw : ∀ σ H R, t' σ H R → t σ H R) : PI X tg iter t' := ⟨fun pins s σ H R I q => h.run pins s σ H R I (hw _ _ _ q)⟩
def iRng (n : Nat) (lo : Int) : List TD := (List.range n).map fun k => (.N, .int (lo + (k : Nat)))
noncomputable def r1K (r : TD) : Option (List TD) := match r.2 with | .int j => cif (j < 4611686018427387904 ∧ -4611686018427387904 ≤ j) (some (iRng j.toNat 0)) none | _ => none
noncomputable def sR1 (f : FE) : FI := fun env => (f env).bind r1K
noncomputable def r2K (r r' : TD) : Option (List TD) := match r.2, r'.2 with
  | .int i, .int j => cif (i < 4611686018427387904 ∧ -4611686018427387904 ≤ i ∧ j < 4611686018427387904 ∧ -4611686018427387904 ≤ j) (some (iRng (j - i).toNat i)) none
  | _, _ => none
noncomputable def sR2 (f g : FE) : FI := fun env => (f env).bind fun r => (g env).bind fun r' => r2K r r'
def itemsOf (r : TD) : Option (List TD) := match r.1, r.2 with
  | .N, .lst xs => some (xs.map fun d => nm (.N, d))
  | .B, .lst xs => some (xs.map fun d => nm (.B, d))
  | .N, .scr xs => some (xs.map fun d => nm (.N, d))
  | .B, .scr xs => some (xs.map fun d => nm (.B, d))
  | .N, .tup xs => some (xs.map fun d => nm (.N, d))
  | .B, .tup xs => some (xs.map fun d => nm (.B, d))
  | _, _ => none
@[simp] def sIt (f : FE) : FI := fun env => (f env).bind itemsOf
theorem wk_rng {G : WG} (hG : Gwf G) {Z : Zc} {w : Wd} (n : Nat) (lo : Int) : Wk G Z (Itr lo n) w (iRng n lo) := by
  refine ⟨fun w' g => ?_, fun i r w' g hr => ?_⟩
  · show n ≤ (iRng n lo).length
    unfold iRng
    simp
  · unfold iRng at hr
    rw [List.getElem?_map] at hr
    obtain ⟨k, h1, rfl⟩ := Option.map_eq_some_iff.mp hr
    have hi : i < n := by
      have := (List.getElem?_eq_some_iff.mp h1).1
      simpa using this
    have hk : k = i := by
      rw [List.getElem?_range hi] at h1
      exact (Option.some.inj h1).symm
    subst hk
    refine ⟨hi, fun x H' hy => ⟨w', Gr.refl (hG.wf _ _ g), hy.1.symm, ?_⟩⟩
    rw [hy.2]
    exact nN (.int _) rfl
theorem ji_range1 {tg : Expr} {p : Pos} {G : WG} (hG : Gwf G) (hm : X.mg "range" = none) (ha : PA X [a] (tA (zx X cl) (sCons f sNil))) (hg : Gl X "range" := by rfl) (hs : starEach [a] X.env = [(false, eval a X.env)] := by rfl) : PI X tg (.Call (.Name "range" p) [a] [] pos) (tI G (zx X cl) (sR1 f)) := by
  refine pi_w (pi_range1 hg hm ha (hs := hs)) fun σ H R ⟨env, w, items, e, k, hr, q⟩ => ?_
  subst e
  obtain ⟨⟨t, d⟩, h1, h2⟩ := Option.bind_eq_some_iff.mp hr
  unfold r1K at h2
  dsimp only at h2
  split at h2
  · unfold cif at h2
    split at h2
    · rename_i j hj
      cases h2
      refine ⟨env, w, [(t, .int j)], rfl, k, by unfold sCons sNil; rw [h1]; rfl, fun vs w1 g1 r1 => ?_⟩
      obtain ⟨v, rfl, hv⟩ := rvs1 r1
      exact ⟨j, by rw [rv_int g1.wf hv], by omega, by omega, q _ w1 g1 (wk_rng hG _ _)⟩
    · cases h2
  · cases h2
theorem gs_rd {w w' : Wd} (g : Gs w w') {t : Tg} (ht : t = .N ∨ t = .B) : Same (w.rd t) (w'.rd t) := by
  rcases ht with rfl | rfl
  · exact g.n
  · exact g.b
theorem wk_l {Z : Zc} {w : Wd} {t : Tg} (ht : t = .N ∨ t = .B) {p : Addr} {vs : List V} {ds : List D} (hw : Wf w) (h : SqL Z.K (w.rd t) p vs) (r : RpL Z (w.rd t) vs ds) : Wk Gs Z (Itl Z.K p) w (ds.map fun d => nm (t, d)) := by
  have hO : t ≠ .O := by rcases ht with rfl | rfl <;> decide
  have top : ∀ {w'}, Gs w w' → SqL Z.K w'.H p vs := fun {w'} g => ((gs_rd g ht).trans (rd_le g.wf t)).seq h
  refine ⟨fun w' g => ⟨vs, top g, by rw [List.length_map, r.length]; exact Nat.le_refl _⟩, fun i rr w' g hr => ?_⟩
  rw [List.getElem?_map] at hr
  obtain ⟨d, h1, rfl⟩ := Option.map_eq_some_iff.mp hr
  obtain ⟨v, h2, h3⟩ := r.get h1
  refine ⟨⟨vs, v, top g, h2⟩, fun x H' hy => ⟨w', Gr.refl g.wf, hy.1.symm, ?_⟩⟩
  have e := hy.2 vs (top g)
  rw [h2] at e
  cases e
  exact RV.nm g.wf (RV.of hO (Rp.mono (gs_rd g ht) h3))
theorem wk_t {Z : Zc} {w : Wd} {t : Tg} (ht : t = .N ∨ t = .B) {p : Addr} {vs : List V} {ds : List D} (hw : Wf w) (h : SqT Z.K (w.rd t) p vs) (r : RpL Z (w.rd t) vs ds) : Wk Gs Z (Itt Z.K p) w (ds.map fun d => nm (t, d)) := by
  have hO : t ≠ .O := by rcases ht with rfl | rfl <;> decide
  have top : ∀ {w'}, Gs w w' → SqT Z.K w'.H p vs := fun {w'} g => sqT_mono ((gs_rd g ht).trans (rd_le g.wf t)) h
  refine ⟨fun w' g => ⟨vs, top g, by rw [List.length_map, r.length]; exact Nat.le_refl _⟩, fun i rr w' g hr => ?_⟩
  rw [List.getElem?_map] at hr
  obtain ⟨d, h1, rfl⟩ := Option.map_eq_some_iff.mp hr
  obtain ⟨v, h2, h3⟩ := r.get h1
  refine ⟨⟨vs, v, top g, h2⟩, fun x H' hy => ⟨w', Gr.refl g.wf, hy.1.symm, ?_⟩⟩
  have e := hy.2 vs (top g)
  rw [h2] at e
  cases e
  exact RV.nm g.wf (RV.of hO (Rp.mono (gs_rd g ht) h3))
theorem ji_it {tg : Expr} (ha : PE X a (tE (zx X cl) f)) : PI X tg a (tI Gs (zx X cl) (sIt f)) := by
  refine ⟨fun pins s σ H R I ⟨env, w, items, e, k, hr, q⟩ => ?_⟩
  subst e
  obtain ⟨⟨t, d⟩, h1, h2⟩ := Option.bind_eq_some_iff.mp hr
  have lst : ∀ (u : Tg), (u = .N ∨ u = .B) → ∀ (xs : List D), f env = some (u, .lst xs) → items = xs.map (fun d => nm (u, d)) → iList X.K (tE (zx X cl) f) σ w.H R := fun u hu xs hf hi =>
    ⟨env, w, _, rfl, k, hf, fun v w1 g1 r1 => by
      have hO : u ≠ .O := by rcases hu with rfl | rfl <;> decide
      have r2 := RV.rp hO r1
      cases r2 with
      | lst h r =>
        refine ⟨_, rfl, ⟨_, SqL.of (rd_le g1.wf u _ _ h)⟩, q _ w1 g1 ?_⟩
        rw [hi]
        exact wk_l hu g1.wf (SqL.of h) r⟩
  have scr : ∀ (u : Tg), (u = .N ∨ u = .B) → ∀ (xs : List D), f env = some (u, .scr xs) → items = xs.map (fun d => nm (u, d)) → iList X.K (tE (zx X cl) f) σ w.H R := fun u hu xs hf hi =>
    ⟨env, w, _, rfl, k, hf, fun v w1 g1 r1 => by
      have hO : u ≠ .O := by rcases hu with rfl | rfl <;> decide
      have r2 := RV.rp hO r1
      cases r2 with
      | scr h r =>
        refine ⟨_, rfl, ⟨_, (rd_le g1.wf u).seq h⟩, q _ w1 g1 ?_⟩
        rw [hi]
        exact wk_l hu g1.wf h r⟩
  have tup : ∀ (u : Tg), (u = .N ∨ u = .B) → ∀ (xs : List D), f env = some (u, .tup xs) → items = xs.map (fun d => nm (u, d)) → iTup X.K (tE (zx X cl) f) σ w.H R := fun u hu xs hf hi =>
    ⟨env, w, _, rfl, k, hf, fun v w1 g1 r1 => by
      have hO : u ≠ .O := by rcases hu with rfl | rfl <;> decide
      have r2 := RV.rp hO r1
      cases r2 with
      | tup h r =>
        refine ⟨_, rfl, ⟨_, sqT_mono (rd_le g1.wf u) h⟩, q _ w1 g1 ?_⟩
        rw [hi]
        exact wk_t hu g1.wf h r⟩
  unfold itemsOf at h2
  dsimp only at h2
  split at h2 <;> first
    | exact (pi_list ha).run pins s σ _ R I (lst _ (.inl rfl) _ h1 (Option.some.inj h2).symm)
    | exact (pi_list ha).run pins s σ _ R I (lst _ (.inr rfl) _ h1 (Option.some.inj h2).symm)
    | exact (pi_list ha).run pins s σ _ R I (scr _ (.inl rfl) _ h1 (Option.some.inj h2).symm)
    | exact (pi_list ha).run pins s σ _ R I (scr _ (.inr rfl) _ h1 (Option.some.inj h2).symm)
    | exact (pi_tup ha).run pins s σ _ R I (tup _ (.inl rfl) _ h1 (Option.some.inj h2).symm)
    | exact (pi_tup ha).run pins s σ _ R I (tup _ (.inr rfl) _ h1 (Option.some.inj h2).symm)
    | cases h2
/-! within a comprehension any list may be walked -/
def itemsR (r : TD) : Option (List TD) := match r.2 with
  | .lst xs => some (xs.map fun d => nm (el r.1, d))
  | .scr xs => some (xs.map fun d => nm (el r.1, d))
  | .tup xs => some (xs.map fun d => nm (el r.1, d))
  | _ => none
@[simp] def sItr (f : FE) : FI := fun env => (f env).bind itemsR
theorem wkr_l {Z : Zc} {w : Wd} {t : Tg} (ht : t ≠ .O) {p : Addr} {vs : List V} {ds : List D} (h : SqL Z.K w.H p vs) (r : RpL Z (w.rd t) vs ds) : Wk Gr Z (Itl Z.K p) w (ds.map fun d => nm (t, d)) := by
  have top : ∀ {w'}, Gr w w' → SqL Z.K w'.H p vs := fun {w'} g => g.h.seq h
  refine ⟨fun w' g => ⟨vs, top g, by rw [List.length_map, r.length]; exact Nat.le_refl _⟩, fun i rr w' g hr => ?_⟩
  rw [List.getElem?_map] at hr
  obtain ⟨d, h1, rfl⟩ := Option.map_eq_some_iff.mp hr
  obtain ⟨v, h2, h3⟩ := r.get h1
  refine ⟨⟨vs, v, top g, h2⟩, fun x H' hy => ⟨w', Gr.refl g.wf, hy.1.symm, ?_⟩⟩
  have e := hy.2 vs (top g)
  rw [h2] at e
  cases e
  exact RV.nm g.wf (RV.of ht (Rp.mono (rd_gr g t) h3))
theorem wkr_t {Z : Zc} {w : Wd} {t : Tg} (ht : t ≠ .O) {p : Addr} {vs : List V} {ds : List D} (h : SqT Z.K w.H p vs) (r : RpL Z (w.rd t) vs ds) : Wk Gr Z (Itt Z.K p) w (ds.map fun d => nm (t, d)) := by
  have top : ∀ {w'}, Gr w w' → SqT Z.K w'.H p vs := fun {w'} g => sqT_mono g.h h
  refine ⟨fun w' g => ⟨vs, top g, by rw [List.length_map, r.length]; exact Nat.le_refl _⟩, fun i rr w' g hr => ?_⟩
  rw [List.getElem?_map] at hr
  obtain ⟨d, h1, rfl⟩ := Option.map_eq_some_iff.mp hr
  obtain ⟨v, h2, h3⟩ := r.get h1
  refine ⟨⟨vs, v, top g, h2⟩, fun x H' hy => ⟨w', Gr.refl g.wf, hy.1.symm, ?_⟩⟩
  have e := hy.2 vs (top g)
  rw [h2] at e
  cases e
  exact RV.nm g.wf (RV.of ht (Rp.mono (rd_gr g t) h3))
theorem jir_it {tg : Expr} (ha : PE X a (tE (zx X cl) f)) : PI X tg a (tI Gr (zx X cl) (sItr f)) := by
  refine ⟨fun pins s σ H R I ⟨env, w, items, e, k, hr, q⟩ => ?_⟩
  subst e
  obtain ⟨⟨t, d⟩, h1, h2⟩ := Option.bind_eq_some_iff.mp hr
  unfold itemsR at h2
  dsimp only at h2
  split at h2
  · cases h2
    exact (pi_list ha).run pins s σ _ R I ⟨env, w, _, rfl, k, h1, fun v w1 g1 r1 => by
      obtain ⟨p, vs, rfl, h3, h4⟩ := RV.lst g1.wf r1
      exact ⟨_, rfl, ⟨_, SqL.of h3⟩, q _ w1 g1 (wkr_l (el_ne t) (SqL.of h3) h4)⟩⟩
  · cases h2
    exact (pi_list ha).run pins s σ _ R I ⟨env, w, _, rfl, k, h1, fun v w1 g1 r1 => by
      obtain ⟨p, vs, rfl, h3, h4⟩ := RV.scr g1.wf r1
      exact ⟨_, rfl, ⟨_, h3⟩, q _ w1 g1 (wkr_l (el_ne t) h3 h4)⟩⟩
  · cases h2
    exact (pi_tup ha).run pins s σ _ R I ⟨env, w, _, rfl, k, h1, fun v w1 g1 r1 => by
      obtain ⟨p, vs, rfl, h3, h4⟩ := RV.tup g1.wf r1
      exact ⟨_, rfl, ⟨_, h3⟩, q _ w1 g1 (wkr_t (el_ne t) h3 h4)⟩⟩
  · cases h2
/-- a text, sign by sign -/
def signsOf (r : TD) : Option (List TD) := match r.2 with
  | .str z => some (z.cps.toList.map fun c => (.N, .str ⟨#[c]⟩))
  | _ => none
@[simp] def sIs (f : FE) : FI := fun env => (f env).bind signsOf
/-! x += e, x -= e (ints) -/
def augI (g : Int → Int → Int) (i : Nat) (f : FE) : FS := fun env => (sVar i env).bind fun a => (f env).bind fun b => match a.2, b.2 with
  | .int x, .int y => (setV i (.N, .int (g x y)) env).map .nx
  | _, _ => none
/-! reversed(e) -/
def itemsRev (r : TD) : Option (List TD) := match r.1, r.2 with
  | .N, .lst xs => some (xs.reverse.map fun d => nm (.N, d))
  | .B, .lst xs => some (xs.reverse.map fun d => nm (.B, d))
  | .N, .tup xs => some (xs.reverse.map fun d => nm (.N, d))
  | .B, .tup xs => some (xs.reverse.map fun d => nm (.B, d))
  | _, _ => none
/-! a try whose body raises nothing -/
end
end Vf
namespace Vf
open PySem L2
/-! ### targets -/
def tG (Z : Zc) (is : List Nat) (st : TD → Ev → Option Ev) : TG := fun v σ H Q => ∃ env w r e, w.H = H ∧ Wok Z env σ w ∧ RV Z w r v ∧ st r env = some e ∧
  ∀ σ' w', Gr w w' → Wok Z e σ' w' → (∀ n, n ∉ is → σ'[n]? = σ[n]?) → σ'.length = σ.length → Q σ' w'.H
def tGs (Z : Zc) (is : List Nat) (st : List TD → Ev → Option Ev) : TGs := fun vs σ H Q => ∃ env w rs e, w.H = H ∧ Wok Z env σ w ∧ RVs Z w rs vs ∧ st rs env = some e ∧
  ∀ σ' w', Gr w w' → Wok Z e σ' w' → (∀ n, n ∉ is → σ'[n]? = σ[n]?) → σ'.length = σ.length → Q σ' w'.H
def setNil : List TD → Ev → Option Ev := fun rs env => match rs with | [] => some env | _ => none
def setCons (s : TD → Ev → Option Ev) (l : List TD → Ev → Option Ev) : List TD → Ev → Option Ev := fun rs env => match rs with | r :: rs => (s r env).bind fun e => l rs e | _ => none
def unp (r : TD) : Option (List TD) := match r.2 with
  | .tup xs => some (xs.map fun d => nm (el r.1, d))
  | .lst xs => some (xs.map fun d => nm (el r.1, d))
  | .scr xs => some (xs.map fun d => nm (el r.1, d))
  | _ => none
def setTup (n : Nat) (l : List TD → Ev → Option Ev) : TD → Ev → Option Ev := fun r env => (unp r).bind fun rs => if rs.length = n then l rs env else none
theorem rvs_of {Z : Zc} {w : Wd} (hw : Wf w) {t : Tg} (ht : t ≠ .O) : ∀ {vs : List V} {ds : List D}, RpL Z (w.rd t) vs ds → RVs Z w (ds.map fun d => nm (t, d)) vs
  | _, _, .nil => trivial
  | _, _, .cons h r => ⟨RV.nm hw (RV.of ht h), rvs_of hw ht r⟩
section
variable {X : Cx} {cl : Str → Option Addr} {a b c e tg iter elt : Expr} {es : List Expr} {f g h : FE} {fa : FA} {fl : FL} {ct : FT} {A B : FS} {pos : Pos} {st : Stmt} {rest body orelse : List Stmt} {fi : FI} {is js : List Nat} {s : TD → Ev → Option Ev} {l : List TD → Ev → Option Ev}
theorem jg_name (i : Nat) {x : Str} (hX : XS X) (hi : X.N[i]? = some x := by rfl) (hx : Loc X.env.scope x := by first | exact Or.inl rfl | exact Or.inr rfl) (hf : X.fn x = true ∨ X.env.scope.names.lookup x = some .local := by first | exact .inl rfl | exact .inr rfl) : PG X (.Name x pos) (tG (zx X cl) [i] (setV i)) := by
  refine ⟨fun pins s σ H v u Q I r ⟨env, w, rr, e, eH, k, hv, hs, q⟩ => (pg_name (i := i) hX.nd hi hx hf).run pins s σ H v u Q I r ?_⟩
  subst eH
  exact q _ w (Gr.refl k.wf) (setV_ok k hs hv) (fun n hn => List.getElem?_set_ne fun e => hn (by rw [← e]; exact List.mem_singleton.mpr rfl)) List.length_set
theorem jgs_nil : PGs X [] (tGs (zx X cl) [] setNil) := by
  refine ⟨fun pins s σ H vs us Q I r ⟨env, w, rs, e, eH, k, hv, hs, q⟩ => pgs_nil.run pins s σ H vs us Q I r ?_⟩
  subst eH
  match rs, vs, hv, hs with
  | [], [], _, hs => cases hs; exact ⟨rfl, q σ w (Gr.refl k.wf) k (fun _ _ => rfl) rfl⟩
theorem jgs_cons (h1 : PG X e (tG (zx X cl) is s)) (h2 : PGs X es (tGs (zx X cl) js l)) (hs : (assignEach (e :: es) X.env).map (·.2) = assign e X.env :: (assignEach es X.env).map (·.2) := by rfl) : PGs X (e :: es) (tGs (zx X cl) (is ++ js) (setCons s l)) := by
  refine ⟨fun pins s' σ H vs us Q I r ⟨env, w, rs, e', eH, k, hv, hs', q⟩ => (pgs_cons h1 h2 hs).run pins s' σ H vs us Q I r ?_⟩
  subst eH
  match rs, vs, hv, hs' with
  | r0 :: rs, v :: vs, hv, hs' =>
    obtain ⟨e1, h3, h4⟩ := Option.bind_eq_some_iff.mp hs'
    refine ⟨v, vs, rfl, env, w, r0, e1, rfl, k, hv.1, h3, fun σ1 w1 g1 k1 f1 l1 => ⟨e1, w1, rs, e', rfl, k1, hv.2.mono g1, h4, fun σ2 w2 g2 k2 f2 l2 => q σ2 w2 (g1.trans g2) k2 (fun n hn => ?_) (l2.trans l1)⟩⟩
    rw [f2 n fun z => hn (List.mem_append_right _ z), f1 n fun z => hn (List.mem_append_left _ z)]
theorem jg_tup {n k0 : Nat} (hX : XS X) (h2 : PGs X es (tGs (zx X cl) is l)) (hn : (assignEach es X.env).length = n := by rfl) (hst : (assignEach es X.env).findIdx? (·.1) = none := by rfl) : PG X (.Tuple es k0 pos) (tG (zx X cl) is (setTup n l)) := by
  refine ⟨fun pins s' σ H v u Q I r ⟨env, w, rr, e', eH, k, hv, hs', q⟩ => ?_⟩
  subst eH
  obtain ⟨rs, h3, h4⟩ := Option.bind_eq_some_iff.mp hs'
  split at h4
  · rename_i hl
    obtain ⟨t, d⟩ := rr
    unfold unp at h3
    dsimp only at h3
    split at h3
    · cases h3
      obtain ⟨p, vs, rfl, h5, h6⟩ := hv.tup k.wf
      exact (pg_tup hX.calm h2 hn hst).run pins s' σ _ _ u Q I r ⟨p, vs, rfl, h5, by rw [h6.length]; simpa using hl, env, w, _, e', rfl, k, rvs_of k.wf (el_ne t) h6, h4, q⟩
    · cases h3
      obtain ⟨p, vs, rfl, h5, h6⟩ := hv.lst k.wf
      exact (pg_lst hX.calm h2 hn hst).run pins s' σ _ _ u Q I r ⟨p, vs, rfl, SqL.of h5, by rw [h6.length]; simpa using hl, env, w, _, e', rfl, k, rvs_of k.wf (el_ne t) h6, h4, q⟩
    · cases h3
      obtain ⟨p, vs, rfl, h5, h6⟩ := hv.scr k.wf
      exact (pg_lst hX.calm h2 hn hst).run pins s' σ _ _ u Q I r ⟨p, vs, rfl, h5, by rw [h6.length]; simpa using hl, env, w, _, e', rfl, k, rvs_of k.wf (el_ne t) h6, h4, q⟩
    · cases h3
  · cases h4
@[simp] def sAsg (f : FE) (s : TD → Ev → Option Ev) : FS := fun env => (f env).bind fun r => (s r env).map .nx
/-! ### for, while -/
def forL (A : FS) (s : TD → Ev → Option Ev) : List TD → Ev → Option Out
  | [], env => some (.nx env)
  | r :: rs, env => (s r env).bind fun e => (A e).bind fun o => match o with
    | .nx e' => forL A s rs e'
    | .ct e' => forL A s rs e'
    | .bk e' => some (.nx e')
    | .rt r => some (.rt r)
    | .rth x T => some (.rth x T)
@[simp] def sFor (fi : FI) (s : TD → Ev → Option Ev) (A : FS) : FS := fun env => (fi env).bind fun items => forL A s items env
theorem js_for (hp : PassesOwn (model X.prog X.w) X.A X.env X.xe) (hX : XS X) (hi : PI X tg iter (tI Gs (zx X cl) fi)) (hg : PG X tg (tG (zx X cl) is s)) (hb : PSs X body (tS (zx X cl) A)) (hs : ∀ x, foldedSetIterable iter X.env x = pure x := by intro _; rfl) :
    PS X (.For tg iter body [] pos) (tS (zx X cl) (sFor fi s A)) := by
  refine ps_w (ps_for hp hX.calm hi hg hb hs) fun D σ H ⟨env, w, out, e, k, hr, q⟩ => ?_
  subst e
  obtain ⟨items, h3, h4⟩ := Option.bind_eq_some_iff.mp hr
  refine ⟨env, w, items, rfl, k, h3, fun J w1 g1 wk => ?_⟩
  refine ⟨fun i m σ' H' => ∃ env' w', w'.H = H' ∧ Wok (zx X cl) env' σ' w' ∧ Gs w1 w' ∧ m = items.length - i ∧ i ≤ items.length ∧ forL A s (items.drop i) env' = some out, ⟨items.length, env, w1, rfl, k.mono g1, Gs.refl g1.wf, rfl, Nat.zero_le _, h4⟩, ?_⟩
  rintro i m σ' H' ⟨env', w', rfl, k', gs, rfl, hi, hf⟩
  by_cases hlt : i < items.length
  · obtain ⟨r, hr⟩ : ∃ r, items[i]? = some r := ⟨items[i], List.getElem?_eq_getElem hlt⟩
    have hd : items.drop i = r :: items.drop (i + 1) := by
      rw [List.drop_eq_getElem_cons hlt]
      rw [List.getElem?_eq_getElem hlt] at hr
      rw [Option.some.inj hr]
    rw [hd] at hf
    obtain ⟨e1, h5, h6⟩ := Option.bind_eq_some_iff.mp hf
    obtain ⟨o, h7, h8⟩ := Option.bind_eq_some_iff.mp h6
    obtain ⟨go, yl⟩ := wk.go i r w' gs hr
    refine .inr ⟨go, fun σ2 H2 => ∃ m', m' < items.length - i ∧ ∃ env' w', w'.H = H2 ∧ Wok (zx X cl) env' σ2 w' ∧ Gs w1 w' ∧ m' = items.length - (i + 1) ∧ i + 1 ≤ items.length ∧ forL A s (items.drop (i + 1)) env' = some out, fun _ _ z => z, fun x H2 hy => ?_⟩
    obtain ⟨w2, g2, rfl, r2⟩ := yl x H2 hy
    refine ⟨env', w2, r, e1, rfl, k'.mono g2, r2, h5, fun σ3 w3 g3 k3 _ _ => ⟨e1, w3, o, rfl, k3, h7, ?_⟩⟩
    have g23 : Gs w' w3 := (g2.trans g3).gs k'.wf
    cases o with
    | nx e' => exact fun σ4 w4 g4 k4 => ⟨_, by omega, e', w4, rfl, k4, (gs.trans g23).trans g4, rfl, hlt, h8⟩
    | ct e' => exact fun σ4 w4 g4 k4 => ⟨_, by omega, e', w4, rfl, k4, (gs.trans g23).trans g4, rfl, hlt, h8⟩
    | bk e' =>
      cases h8
      exact fun σ4 w4 g4 k4 => q σ4 w4 ((((g1.gs k.wf).trans gs).trans g23).trans g4) k4
    | rt r' =>
      cases h8
      exact fun v w4 g4 r4 => q v w4 ((((g1.gs k.wf).trans gs).trans g23).trans g4) r4
    | rth x T =>
      cases h8
      exact fun v w4 g4 r4 t4 => q v w4 ((((g1.gs k.wf).trans gs).trans g23).trans g4) r4 t4
  · have e : i = items.length := by omega
    subst e
    refine .inl ⟨wk.stop w' gs, ?_⟩
    rw [List.drop_length] at hf
    cases hf
    exact q σ' w' ((g1.gs k.wf).trans gs) k'
/-! ### comprehensions -/
def wipeE (env : Ev) : List Nat → Ev
  | [] => env
  | v :: vs => (wipeE env vs).put v .un
def okT : Tg → Bool | .N => true | .B => true | _ => false
def lcL (ct : FT) (fe : FE) (s : TD → Ev → Option Ev) (env : Ev) : List TD → Option (List TD)
  | [] => some []
  | r :: rs => (s r env).bind fun e => (ct e).bind fun k => if k then (fe e).bind fun y => if okT y.1 then (lcL ct fe s env rs).map fun ys => y :: ys else none else lcL ct fe s env rs
@[simp] def sLc (fi : FI) (s : TD → Ev → Option Ev) (ct : FT) (fe : FE) (vs : List Nat) : FL := fun env => (fi env).bind fun items => if items.length ≤ lim then (lcL ct fe s (wipeE env vs) items).map fun ys => (tagL ys, ys.map (·.2)) else none
@[simp] def sYes : FT := fun _ => some true
theorem jts_nil : PTs X [] (tT (zx X cl) sYes) := by
  refine ⟨fun pins s σ H Q I ⟨env, w, r, e, k, hr, q⟩ => pts_nil.run pins s σ H Q I ?_⟩
  subst e
  cases hr
  exact q w (Gr.refl k.wf)
theorem wok_un {Z : Zc} {env : Ev} {σ : L2.St} {w : Wd} (k : Wok Z env σ w) (v : Nat) : Wok Z (env.put v .un) (σ.set v none) w := by
  refine ⟨k.wf, by simpa using k.len, fun j s e => ?_, fun j j' ds es p hne e1 e2 e3 => ?_, k.tb⟩
  · by_cases hj : v = j
    · subst hj
      have hl : v < (env.put v Sl.un).s.length := (List.getElem?_eq_some_iff.mp e).1
      rw [List.length_set] at hl
      rw [List.getElem?_set_self hl] at e
      cases e
      exact ⟨none, List.getElem?_set_self (by rw [k.len]; exact hl), trivial⟩
    · rw [List.getElem?_set_ne hj] at e
      obtain ⟨o, h1, h2⟩ := k.sl j s e
      exact ⟨o, by rw [List.getElem?_set_ne hj]; exact h1, h2⟩
  · have n1 : v ≠ j := fun q => by
      subst q
      have hl : v < (env.put v Sl.un).s.length := (List.getElem?_eq_some_iff.mp e1).1
      rw [List.length_set] at hl
      rw [List.getElem?_set_self hl] at e1
      cases e1
    have n2 : v ≠ j' := fun q => by
      subst q
      have hl : v < (env.put v Sl.un).s.length := (List.getElem?_eq_some_iff.mp e2).1
      rw [List.length_set] at hl
      rw [List.getElem?_set_self hl] at e2
      cases e2
    rw [List.getElem?_set_ne n1] at e1 e3
    rw [List.getElem?_set_ne n2] at e2 ⊢
    exact k.dj j j' ds es p hne e1 e2 e3
theorem wok_wipe {Z : Zc} {env : Ev} {σ : L2.St} {w : Wd} (k : Wok Z env σ w) : ∀ vs : List Nat, Wok Z (wipeE env vs) (wipe σ vs) w
  | [] => k
  | v :: vs => wok_un (wok_wipe k vs) v
theorem wipe_in {σ : L2.St} {i : Nat} : ∀ {vs : List Nat}, i ∈ vs → i < σ.length → (wipe σ vs)[i]? = some none
  | v :: vs, h, hl => by
    unfold wipe
    by_cases e : v = i
    · subst e
      rw [List.getElem?_set_self (by rw [wipe_length]; exact hl)]
    · rw [List.getElem?_set_ne e]
      rcases List.mem_cons.mp h with z | z
      · exact absurd z.symm e
      · exact wipe_in z hl
theorem wipe_eq {σ σ' : L2.St} {is vs : List Nat} (hl : σ'.length = σ.length) (hs : is.all (fun i => vs.contains i) = true) (h : ∀ n, n ∉ is → σ'[n]? = (wipe σ vs)[n]?) : wipe σ' vs = wipe σ vs := by
  apply List.ext_getElem?
  intro n
  by_cases hn : n ∈ vs
  · by_cases hlt : n < σ.length
    · rw [wipe_in hn (by rw [hl]; exact hlt), wipe_in hn hlt]
    · rw [List.getElem?_eq_none (by rw [wipe_length]; omega), List.getElem?_eq_none (by rw [wipe_length]; omega)]
  · rw [wipe_out hn, wipe_out hn]
    have : n ∉ is := fun z => hn (by
      have := List.all_eq_true.mp hs n z
      simpa using this)
    rw [h n this, wipe_out hn]
theorem lcL_len {ct : FT} {fe : FE} {s : TD → Ev → Option Ev} {env : Ev} : ∀ {items ys : List TD}, lcL ct fe s env items = some ys → ys.length ≤ items.length
  | [], ys, h => by cases h; exact Nat.le_refl _
  | r :: rs, ys, h => by
    obtain ⟨e, _, h⟩ := Option.bind_eq_some_iff.mp h
    obtain ⟨k, _, h⟩ := Option.bind_eq_some_iff.mp h
    cases k with
    | false => exact Nat.le_succ_of_le (lcL_len h)
    | true =>
      obtain ⟨y, _, h⟩ := Option.bind_eq_some_iff.mp h
      split at h
      · obtain ⟨zs, h2, rfl⟩ := Option.map_eq_some_iff.mp h
        exact Nat.succ_le_succ (lcL_len h2)
      · cases h
theorem RVs.app {Z : Zc} {w : Wd} : ∀ {rs : List TD} {vs : List V} {r : TD} {v : V}, RVs Z w rs vs → RV Z w r v → RVs Z w (rs ++ [r]) (vs ++ [v])
  | [], [], _, _, _, h => ⟨h, trivial⟩
  | _ :: _, _ :: _, _, _, ⟨h, t⟩, q => ⟨h, RVs.app t q⟩
  | [], _ :: _, _, _, h, _ => h.elim
  | _ :: _, [], _, _, h, _ => h.elim
theorem rvs_same {Z : Zc} {w : Wd} {H' : Hp} : ∀ {rs : List TD} {vs : List V}, rs.all (fun r => okT r.1) = true → RVs Z w rs vs → RVs Z ⟨w.N, w.B, H', w.m⟩ rs vs
  | [], [], _, _ => trivial
  | (t, d) :: rs, v :: vs, ha, ⟨h, t'⟩ => by
    simp only [List.all_cons, Bool.and_eq_true] at ha
    refine ⟨?_, rvs_same ha.2 t'⟩
    cases t with
    | N => exact h
    | B => exact h
    | T => exact absurd ha.1 (by decide)
    | O => exact absurd ha.1 (by decide)
  | [], _ :: _, _, h => h.elim
  | _ :: _, [], _, h => h.elim
theorem lc_rd {X : Cx} {cl : Str → Option Addr} {fi : FI} {is vs : List Nat} {s : TD → Ev → Option Ev} {ct : FT} {f : FE} (hsub : is.all (fun i => vs.contains i) = true) {σ : L2.St} {H : Hp} {Q : VK} (hh : tL (zx X cl) (sLc fi s ct f vs) σ H Q) :
    tLc (tI Gr (zx X cl) fi) (tG (zx X cl) is s) (tT (zx X cl) ct) (tE (zx X cl) f) vs σ H Q := by
  obtain ⟨env, w, t, ds, e, k, hr, ht, q⟩ := hh
  subst e
  obtain ⟨items, h3, h4⟩ := Option.bind_eq_some_iff.mp hr
  split at h4
  · rename_i hil
    obtain ⟨ys, h5, h6⟩ := Option.map_eq_some_iff.mp h4
    cases h6
    refine ⟨env, w, items, rfl, k, h3, fun J w1 g1 wk D hD => ?_⟩
    have k1 : Wok (zx X cl) (wipeE env vs) (wipe σ vs) w1 := wok_wipe (k.mono g1) vs
    -- the list at D is nobody's yet
    refine ⟨fun i m H' => ∃ w' acc rs zs, w'.H = H' ∧ Gr w1 w' ∧ w'.H D = some (.lst acc) ∧ w'.B D = none ∧ RVs (zx X cl) w' rs acc ∧ rs.all (fun r => okT r.1) = true ∧ m = items.length - i ∧ i ≤ items.length ∧ lcL ct f s (wipeE env vs) (items.drop i) = some zs ∧ rs ++ zs = ys,
      ⟨items.length, w1.put .T D (.lst []), [], [], ys, rfl, Gr.put g1.wf hD, upd_same, g1.wf.bh.free hD, trivial, rfl, rfl, Nat.zero_le _, h5, rfl⟩, ?_⟩
    rintro i m H' ⟨w', acc, rs, zs, rfl, g2, hA, hB, hR, hok, rfl, hi, hf, hys⟩
    by_cases hlt : i < items.length
    · obtain ⟨r, hr⟩ : ∃ r, items[i]? = some r := ⟨items[i], List.getElem?_eq_getElem hlt⟩
      have hd : items.drop i = r :: items.drop (i + 1) := by
        rw [List.drop_eq_getElem_cons hlt]
        rw [List.getElem?_eq_getElem hlt] at hr
        rw [Option.some.inj hr]
      rw [hd] at hf
      obtain ⟨e1, h7, h8⟩ := Option.bind_eq_some_iff.mp hf
      obtain ⟨kk, h9, h10⟩ := Option.bind_eq_some_iff.mp h8
      obtain ⟨go, yl⟩ := wk.go i r w' g2 hr
      refine .inr ⟨go, fun H2 => ∃ m', m' < items.length - i ∧ ∃ w' acc rs zs, w'.H = H2 ∧ Gr w1 w' ∧ w'.H D = some (.lst acc) ∧ w'.B D = none ∧ RVs (zx X cl) w' rs acc ∧ rs.all (fun r => okT r.1) = true ∧ m' = items.length - (i + 1) ∧ i + 1 ≤ items.length ∧ lcL ct f s (wipeE env vs) (items.drop (i + 1)) = some zs ∧ rs ++ zs = ys,
        fun _ z => z, fun x H2 hy => ?_⟩
      obtain ⟨w2, g3, rfl, r2⟩ := yl x H2 hy
      refine ⟨wipeE env vs, w2, r, e1, rfl, (k1.mono g2).mono g3, r2, h7, fun σ3 w3 g4 k3 f3 l3 => ⟨?_, e1, w3, kk, rfl, k3, h9, fun w4 g5 => ?_⟩⟩
      · have hl : σ3.length = σ.length := l3.trans (wipe_length σ vs)
        exact wipe_eq hl hsub f3
      · have hA3 : w4.H D = some (.lst acc) := ((g3.trans g4).trans g5).h _ _ hA
        have hB3 : w4.B D = none := own_mono ((g3.trans g4).trans g5) hA hB
        have hR3 := hR.mono ((g3.trans g4).trans g5)
        cases kk with
        | false => exact ⟨_, by omega, w4, acc, rs, zs, rfl, g2.trans ((g3.trans g4).trans g5), hA3, hB3, hR3, hok, rfl, hlt, h10, hys⟩
        | true =>
          obtain ⟨y, h11, h12⟩ := Option.bind_eq_some_iff.mp h10
          split at h12
          · rename_i hy1
            obtain ⟨zs', h13, rfl⟩ := Option.map_eq_some_iff.mp h12
            refine ⟨e1, w4, y, rfl, k3.mono g5, h11, fun v w5 g6 r5 => ⟨acc, g6.h _ _ hA3, ?_, _, by omega, ⟨w5.N, w5.B, upd w5.H D (.lst (acc ++ [v])), w5.m⟩, acc ++ [v], rs ++ [y], zs', rfl, ?_, upd_same, own_mono g6 hA3 hB3, ?_, ?_, rfl, hlt, h13, by rw [List.append_assoc]; exact hys⟩⟩
            · have l1 : acc.length = rs.length := hR.length
              have l2 : ys.length ≤ items.length := lcL_len h5
              have l3 : rs.length ≤ ys.length := by rw [← hys]; simp
              exact lim_lt (by omega)
            · have gg := (g2.trans ((g3.trans g4).trans g5)).trans g6
              exact ⟨⟨gg.wf.nb, same_up1 gg.wf.bh (own_mono g6 hA3 hB3)⟩, gg.n, gg.b, same_up1 gg.h hD, gg.fn, gg.fb, gg.m⟩
            · refine RVs.app (rvs_same hok (hR3.mono g6)) ?_
              obtain ⟨t, d⟩ := y
              cases t with
              | N => exact r5
              | B => exact r5
              | T => exact Bool.noConfusion hy1
              | O => exact Bool.noConfusion hy1
            · rw [List.all_append, hok]
              simpa using hy1
          · cases h12
    · have e : i = items.length := by omega
      subst e
      rw [List.drop_length] at hf
      cases hf
      rw [List.append_nil] at hys
      subst hys
      refine .inl ⟨wk.stop w' g2, ?_⟩
      exact q D acc w' (g1.trans g2) (g1.h.free hD) hA hB (rvs_items g2.wf hR)
  · cases h4
end
end Vf
namespace Vf
open PySem L2
theorem XS.blk {X : Cx} (h : XS X) {s : Shared} {H : Hp} {scope : Scope} {ce : Env} {fp : List Addr} : XS (X.blk s H scope ce fp) := ⟨h.calm, h.nd, h.hu⟩
section
variable {X : Cx} {cl : Str → Option Addr} {a b c e tg iter elt : Expr} {es ifs : List Expr} {f g h : FE} {fa fk : FA} {fl : FL} {ct : FT} {A B : FS} {pos : Pos} {fi : FI} {is js : List Nat} {s : TD → Ev → Option Ev} {scope : Scope} {own : List (Str × Nat)}
theorem jl_lc (own : List (Str × Nat)) (hX : XS X) (hi : PI X tg iter (tI Gr (zx X cl) fi)) (ok : blkC X.N X.env.scope scope own = true)
    (hg : ∀ (s' : Shared) (H : Hp) (C : Addr) (l : List (Str × Addr)) (fp : List Addr), PG (X.blk s' H scope (compEnvC scope l C X.env) fp) tg (tG (zx X cl) is s))
    (ht : ∀ (s' : Shared) (H : Hp) (C : Addr) (l : List (Str × Addr)) (fp : List Addr), PTs (X.blk s' H scope (compEnvC scope l C X.env) fp) ifs (tT (zx X cl) ct))
    (he : ∀ (s' : Shared) (H : Hp) (C : Addr) (l : List (Str × Addr)) (fp : List Addr), PE (X.blk s' H scope (compEnvC scope l C X.env) fp) elt (tE (zx X cl) f))
    (hsub : is.all (fun i => (own.map (·.2)).contains i) = true := by rfl) (hs : ∀ x, foldedSetIterable iter X.env x = pure x := by intro _; rfl) :
    PE X (.ListComp elt [⟨tg, iter, ifs, 0⟩] scope pos) (tL (zx X cl) (sLc fi s ct f (own.map (·.2)))) :=
  pe_w (pe_lc hX.calm hX.nd hi (blkOk_by ok) hg ht he hs) fun _ _ _ hh => lc_rd hsub hh
theorem sSet_rd {i : Nat} {D : Ends} {σ : L2.St} {H : Hp} {Z : Zc} (hh : tS Z (sSet i f) D σ H) : tE Z f σ H fun v H1 => D.nx (σ.set i (some v)) H1 := by
  obtain ⟨env, w, out, e, k, hr, q⟩ := hh
  subst e
  obtain ⟨r, h3, h4⟩ := Option.bind_eq_some_iff.mp hr
  obtain ⟨e', h5, rfl⟩ := Option.map_eq_some_iff.mp h4
  exact ⟨env, w, r, rfl, k, h3, fun v w1 g1 r1 => q _ w1 (g1.gs k.wf) (setV_ok (k.mono g1) h5 r1)⟩
theorem sL_rd {σ : L2.St} {H : Hp} {Q : VK} {Z : Zc} (hh : tE Z (sL fl) σ H Q) : tL Z fl σ H Q := by
  obtain ⟨env, w, r, e, k, hr, q⟩ := hh
  obtain ⟨⟨t, ds⟩, h1, h2⟩ := Option.bind_eq_some_iff.mp hr
  dsimp only at h2
  split at h2
  · cases h2
  · rename_i ht
    cases h2
    refine ⟨env, w, t, ds, e, k, h1, ht, fun p vs w' g1 hp hH hB r => ?_⟩
    obtain ⟨w2, g2, e2, r2⟩ := adopt g1 ht hp hH hB r
    rw [← e2]
    exact q _ w2 g2 r2
theorem js_setLc (i : Nat) (own : List (Str × Nat)) {y : Str} {py spos : Pos} (hX : XS X) (hi : PI X tg iter (tI Gr (zx X cl) fi)) (ok : blkC X.N X.env.scope scope own = true)
    (hg : ∀ (s' : Shared) (H : Hp) (C : Addr) (l : List (Str × Addr)) (fp : List Addr), PG (X.blk s' H scope (compEnvC scope l C X.env) fp) tg (tG (zx X cl) is s))
    (ht : ∀ (s' : Shared) (H : Hp) (C : Addr) (l : List (Str × Addr)) (fp : List Addr), PTs (X.blk s' H scope (compEnvC scope l C X.env) fp) ifs (tT (zx X cl) ct))
    (he : ∀ (s' : Shared) (H : Hp) (C : Addr) (l : List (Str × Addr)) (fp : List Addr), PE (X.blk s' H scope (compEnvC scope l C X.env) fp) elt (tE (zx X cl) f))
    (hy : X.N[i]? = some y := by rfl) (hyl : X.env.scope.names.lookup y = some .local := by rfl)
    (hsw : swapsWith (.ListComp elt [⟨tg, iter, ifs, 0⟩] scope pos) (some (.Name y py)) spos.line X.env = pure true := by exact sw_true rfl rfl rfl (by decide +kernel))
    (hsub : is.all (fun i => (own.map (·.2)).contains i) = true := by rfl) (hs : ∀ x, foldedSetIterable iter X.env x = pure x := by intro _; rfl) :
    PS X (.Assign [.Name y py] (.ListComp elt [⟨tg, iter, ifs, 0⟩] scope pos) spos) (tS (zx X cl) (sSet i (sL (sLc fi s ct f (own.map (·.2)))))) :=
  ps_w (ps_setLc hX.calm hX.nd hy hyl hsw hi (blkOk_by ok) hg ht he hs) fun _ _ _ hh => lc_rd hsub (sL_rd (sSet_rd hh))
/-! ### calls -/
def dn (r : TD) : TD := match r.1 with | .N => (.N, r.2) | _ => nm (.B, r.2)
def up (r : TD) : TD := match r.1 with | .N => (.N, r.2) | _ => nm (.T, r.2)
@[simp] def sCall (g : List TD → Option TD) (fa : FA) : FE := fun env => (fa env).bind fun rs => (g (rs.map dn)).map up
/-- the promise of a def: what it is worth, by g; it keeps all that stands -/
def spG (Z : Zc) (g : List TD → Option TD) : Sp := fun vs H Q _ => ∃ N rs r, Same N H ∧ RVs Z ⟨N, H, H, []⟩ rs vs ∧ rs.all (fun r => okT r.1) = true ∧ g rs = some r ∧ okT r.1 = true ∧ ∀ v w', Gr ⟨N, H, H, []⟩ w' → RV Z w' r v → Q v w'.H
theorem nm_ok {t : Tg} {d : D} (h : okT t = true) : okT (nm (t, d)).1 = true := by cases d <;> first | rfl | exact h
theorem dn_ok (r : TD) : okT (dn r).1 = true := by
  obtain ⟨t, d⟩ := r
  cases t <;> first | rfl | exact nm_ok rfl
theorem dn_rv {Z : Zc} {w : Wd} (hw : Wf w) {r : TD} {v : V} (h : RV Z w r v) : RV Z ⟨w.N, w.H, w.H, []⟩ (dn r) v := by
  have wf : Wf ⟨w.N, w.H, w.H, []⟩ := ⟨hw.nh, .refl _⟩
  have hb : RV Z ⟨w.N, w.H, w.H, []⟩ (.B, r.2) v := h.top hw
  obtain ⟨t, d⟩ := r
  cases t with
  | N => exact h
  | B => exact RV.nm wf hb
  | T => exact RV.nm wf hb
  | O => exact RV.nm wf hb
theorem dn_rvs {Z : Zc} {w : Wd} (hw : Wf w) : ∀ {rs : List TD} {vs : List V}, RVs Z w rs vs → RVs Z ⟨w.N, w.H, w.H, []⟩ (rs.map dn) vs
  | [], [], _ => trivial
  | _ :: _, _ :: _, ⟨h, t⟩ => ⟨dn_rv hw h, dn_rvs hw t⟩
  | [], _ :: _, h => h.elim
  | _ :: _, [], h => h.elim
/-- back at the caller -/
theorem up_rv {Z : Zc} {w w' : Wd} (hw : Wf w) (g : Gr ⟨w.N, w.H, w.H, []⟩ w') {r : TD} {v : V} (ho : okT r.1 = true) (h : RV Z w' r v) : ∃ w2, Gr w w2 ∧ w2.H = w'.H ∧ RV Z w2 (up r) v := by
  have key : ∀ x o, w'.N x = some o → w.B x ≠ none → w.B x = some o := fun x o hx hb => by
    cases q : w.B x with
    | none => exact (hb q).elim
    | some u =>
      have h1 := g.h _ _ (hw.bh _ _ q)
      have h2 := g.wf.nh _ _ hx
      exact congrArg some (Option.some.inj (h1.symm.trans h2))
  let B2 : Hp := fun x => match w.B x with | some o => some o | none => w'.N x
  have b1 : Same w.B B2 := fun x o e => by show (match w.B x with | some o => some o | none => w'.N x) = _; rw [e]
  have b2 : Same w'.N B2 := fun x o e => by
    show (match w.B x with | some o => some o | none => w'.N x) = _
    cases q : w.B x with
    | none => exact e
    | some u => exact (q.symm.trans (key x o e (by rw [q]; exact fun z => nomatch z)))
  have b3 : Same B2 w'.H := fun x o e => by
    have e' : (match w.B x with | some o => some o | none => w'.N x) = some o := e
    cases q : w.B x with
    | none =>
      rw [q] at e'
      exact g.wf.nh _ _ e'
    | some u =>
      rw [q] at e'
      cases e'
      exact g.h _ _ (hw.bh _ _ q)
  have b4 : ∀ x, B2 x ≠ none → w.B x ≠ none ∨ w.H x = none := fun x e => by
    cases q : w.B x with
    | some u => exact .inl (fun z => nomatch z)
    | none =>
      have e' : w'.N x ≠ none := fun z => e (by show (match w.B x with | some o => some o | none => w'.N x) = _; rw [q]; exact z)
      rcases g.fn x e' with z | z
      · cases q2 : w.N x with
        | none => exact (z q2).elim
        | some u =>
          have := hw.nb _ _ q2
          rw [q] at this
          cases this
      · exact .inr z
  have gg : Gr w ⟨w'.N, B2, w'.H, w.m⟩ := ⟨⟨b2, b3⟩, g.n, b1, g.h, g.fn, b4, rfl⟩
  refine ⟨⟨w'.N, B2, w'.H, w.m⟩, gg, rfl, ?_⟩
  have ht : RV Z ⟨w'.N, B2, w'.H, w.m⟩ (.T, r.2) v := h.top g.wf
  obtain ⟨t, d⟩ := r
  cases t with
  | N => exact h
  | B => exact RV.nm gg.wf ht
  | T => exact RV.nm gg.wf ht
  | O => exact RV.nm gg.wf ht
variable {k : Nat} {fad : Addr} {fd : FuncData} {ps : List Str} {gg : List TD → Option TD}
theorem sCall_rd {σ : L2.St} {H : Hp} {Q : VK} {Z : Zc} {E : XK} (hok : ∀ rs r, gg rs = some r → okT r.1 = true) (hh : tE Z (sCall gg fa) σ H Q) : tCall (spG Z gg) [] E (tA Z fa) σ H Q := by
  obtain ⟨env, w, r, e, k, hr, q⟩ := hh
  subst e
  obtain ⟨rs, h1, h2⟩ := Option.bind_eq_some_iff.mp hr
  obtain ⟨r0, h3, rfl⟩ := Option.map_eq_some_iff.mp h2
  refine ⟨env, w, rs, rfl, k, h1, fun vs w1 g1 r1 => ?_⟩
  show spG Z gg (vs ++ []) w1.H Q E
  rw [List.append_nil]
  refine ⟨w1.N, rs.map dn, r0, g1.wf.nh, dn_rvs g1.wf r1, ?_, h3, hok _ _ h3, fun v w' g2 r2 => ?_⟩
  · rw [List.all_map, List.all_eq_true]
    exact fun x _ => dn_ok x
  · obtain ⟨w2, g3, e3, r3⟩ := up_rv g1.wf g2 (hok _ _ h3) r2
    rw [← e3]
    exact q v w2 (g1.trans g3) r3
end
/-! ### a def's promise, by its body -/
def fin (o : Out) : Option TD := match o with
  | .rt (.N, d) => some (.N, d)
  | .rt (.B, d) => some (.B, d)
  | .rt (.O, d) => some (.N, d)
  | .rth (.pu d) _ => some (.N, d)
  | .nx _ => some (.N, .non)
  | _ => none
def env0 (n : Nat) (rs : List TD) : Ev := ⟨rs.map (fun r => .val r.1 r.2) ++ List.replicate (n - rs.length) .un, []⟩
theorem wok_start {Z : Zc} {N : Hp} {H : Hp} (hs : Same N H) {names : List Str} {rs : List TD} {vs : List V} (h : RVs Z ⟨N, H, H, []⟩ rs vs) (ho : rs.all (fun r => okT r.1) = true) (hl : rs.length ≤ names.length) : Wok Z (env0 names.length rs) (L2.start names vs) ⟨N, H, H, []⟩ := by
  have hvl := h.length
  refine ⟨⟨hs, .refl _⟩, ?_, fun i s e => ?_, fun i j ds es p hne e1 e2 e3 => ?_, ⟨rfl, List.nodup_nil, fun a h => (by cases h), fun n M h => (by simp [env0] at h)⟩⟩
  · unfold L2.start env0
    simp only [List.length_append, List.length_map, List.length_replicate]
    omega
  · have aux : ∀ (rs : List TD) (vs : List V) (i : Nat) (r : TD), RVs Z ⟨N, H, H, []⟩ rs vs → rs[i]? = some r → ∃ v, vs[i]? = some v ∧ RV Z ⟨N, H, H, []⟩ r v := by
      intro rs
      induction rs with
      | nil => intro vs i r _ e; simp at e
      | cons r0 rs ih =>
        intro vs i r h e
        match vs, h with
        | v :: vs, h =>
          cases i with
          | zero => simp at e; subst e; exact ⟨v, rfl, h.1⟩
          | succ i => simpa using ih vs i r h.2 (by simpa using e)
    unfold env0 at e
    by_cases hi : i < rs.length
    · rw [List.getElem?_append_left (by rw [List.length_map]; exact hi), List.getElem?_map] at e
      obtain ⟨r, h1, rfl⟩ := Option.map_eq_some_iff.mp e
      obtain ⟨v, h2, h3⟩ := aux rs vs i r h h1
      refine ⟨some v, ?_, v, rfl, ?_⟩
      · unfold L2.start
        rw [List.getElem?_append_left (by rw [List.length_map]; omega), List.getElem?_map, h2]
        rfl
      · have hr := List.all_eq_true.mp ho r (List.mem_of_getElem? h1)
        obtain ⟨t, d⟩ := r
        cases t with
        | N => exact .inl ⟨rfl, h3⟩
        | B => exact .inr ⟨rfl, h3⟩
        | T => exact Bool.noConfusion hr
        | O => exact Bool.noConfusion hr
    · rw [List.getElem?_append_right (by rw [List.length_map]; omega)] at e
      have e2 := List.mem_of_getElem? e
      have e3 := List.eq_of_mem_replicate e2
      subst e3
      have hlt : i - (rs.map fun r => Sl.val r.1 r.2).length < names.length - rs.length := by
        have := (List.getElem?_eq_some_iff.mp e).1
        simpa using this
      rw [List.length_map] at hlt
      refine ⟨none, ?_, trivial⟩
      unfold L2.start
      rw [List.getElem?_append_right (by rw [List.length_map]; omega), List.length_map, List.getElem?_replicate]
      rw [if_pos (by omega)]
  · unfold env0 at e1
    rcases List.mem_append.mp (List.mem_of_getElem? e1) with z | z
    · obtain ⟨r, _, q⟩ := List.mem_map.mp z
      cases q
    · cases List.eq_of_mem_replicate z
section
variable {P : Program} {w : World} {K : PySem.W.Frag} {mg : Str → Option Value} {base : Heap} {cl : Str → Option Addr}
theorem ok_def {x qual : Str} {st : Stmt} {f : Addr} {fd : FuncData} {N ps : List Str} {k : Nat} {g : List TD → Option TD} {B : FS} (F : Fun K x qual st f fd) (S : FnScope N ps (defScope st)) (har : ∀ rs r, g rs = some r → rs.length = ps.length)
    (hb : ∀ (cdv : Value) (A : Around) (outer : List Env) (s : Shared) (H : Hp) (E : XK), Room k (A.deeper (PyProof.Rows.envOfC qual (defScope st) s.heap.objs.size f cdv)) → XS (cxOf CX0 P w K mg base N qual (defScope st) f cdv A outer s H E).nox →
      PSs (cxOf CX0 P w K mg base N qual (defScope st) f cdv A outer s H E).nox (defBody st) (tS ⟨K, cl⟩ B))
    (hsem : ∀ rs r, rs.all (fun r => okT r.1) = true → g rs = some r → (B (env0 N.length rs)).bind fin = some r) : FnOk P w K mg base CX0 (k + 1) f fd ps (spG ⟨K, cl⟩ g) := by
  refine F.ok S (fun vs H Q E h => ?_) (fun cdv A outer s H vs Q E hr h => ?_)
  · obtain ⟨N', rs, r, _, h1, _, h2, _⟩ := h
    rw [h1.length, har _ _ h2]
  · obtain ⟨N', rs, r, h0, h1, h2, h3, h4, q⟩ := h
    have hX : XS (cxOf CX0 P w K mg base N qual (defScope st) f cdv A outer s H E).nox := ⟨rfl, S.nd, by have := hr.un; show (A.deeper _).units + 65 < cLine; omega⟩
    refine ⟨_, hb cdv A outer s H E hr hX, ?_⟩
    obtain ⟨out, e1, e2⟩ := Option.bind_eq_some_iff.mp (hsem rs r h2 h3)
    have hle : rs.length ≤ N.length := by
      have := congrArg List.length S.pre
      rw [List.length_take] at this
      have := har _ _ h3
      omega
    refine ⟨env0 N.length rs, ⟨N', H, H, []⟩, out, rfl, wok_start h0 h1 h2 hle, e1, ?_⟩
    cases out with
    | nx e' =>
      cases e2
      exact fun σ' w' gs k' => q .non ⟨w'.N, w'.B, w'.H, []⟩ gs.gr (nN .non rfl)
    | bk e' => cases e2
    | ct e' => cases e2
    | rth x T =>
      cases x with
      | ob n => cases e2
      | pu d =>
        cases e2
        exact fun v w' gs hv _ => q v ⟨w'.N, w'.B, w'.H, []⟩ gs.gr hv
    | rt r0 =>
      obtain ⟨t, d⟩ := r0
      cases t with
      | N =>
        cases e2
        exact fun v w' gs rv => q v ⟨w'.N, w'.B, w'.H, []⟩ gs.gr rv
      | B =>
        cases e2
        exact fun v w' gs rv => q v ⟨w'.N, w'.B, w'.H, []⟩ gs.gr rv
      | T => cases e2
      | O =>
        cases e2
        intro v w' gs rv
        obtain ⟨p, vs', ds, rfl, rfl, a1, a2, a3⟩ := rv
        obtain ⟨w2, g2, e3, r3⟩ := adopt (Z := ⟨K, cl⟩) (t := .N) gs.gr (by decide) (gs.b.free a2) a1 a2 a3
        show Q _ w'.H
        rw [← e3]
        exact q _ w2 g2 r3
end
/-- where a def of the module stands -/
structure Df (K : PySem.W.Frag) (mg : Str → Option Value) (x : Str) (st : Stmt) (f : Addr) (fd : FuncData) : Prop where
  fn : Fun K x x st f fd
  gm : mg x = some (.ref f)
end Vf
namespace Vf
open PySem L2
/-- a def as its callers see it: by name, at most level k, worth g -/
structure Ca (P : Program) (w : World) (K : PySem.W.Frag) (mg : Str → Option Value) (base : Heap) (cl : Str → Option Addr) (k : Nat) (x : Str) (ps : List Str) (g : List TD → Option TD) : Prop where
  ex : ∃ f fd, FnOk P w K mg base CX0 k f fd ps (spG ⟨K, cl⟩ g) ∧ mg x = some (.ref f) ∧ PySem.W.keepIn K (.ref f) = true ∧ Binds K fd ps [] ∧
    ∀ (s : Shared) (us : List Value), us.length = ps.length → BindsTo s fd ⟨[], ps.zip us⟩ (ps.zip us)
  ok : ∀ rs r, g rs = some r → okT r.1 = true
theorem Ca.mono {P : Program} {w : World} {K : PySem.W.Frag} {mg : Str → Option Value} {base : Heap} {cl : Str → Option Addr} {j k : Nat} {x : Str} {ps : List Str} {g : List TD → Option TD} (C : Ca P w K mg base cl j x ps g) (h : j ≤ k) : Ca P w K mg base cl k x ps g := by
  obtain ⟨f, fd, F, r⟩ := C.ex
  exact ⟨⟨f, fd, F.mono h, r⟩, C.ok⟩
section
variable {X : Cx} {cl : Str → Option Addr} {a b c e : Expr} {es : List Expr} {kws : List Keyword} {fa : FA} {pos : Pos} {ps : List Str} {gg : List TD → Option TD} {k j : Nat}
theorem jc {x : Str} {p : Pos} (C : Ca X.prog X.w X.K X.mg X.base cl k x ps gg) (hr : Room j X.A) (ha : PA X (a :: es) (tA (zx X cl) fa)) (hkj : k ≤ j := by decide) (hg : Gl X x := by rfl) (hdb : (x == ("__debug__" : Str)) = false := by decide)
    (he : starEach (a :: es) X.env = (false, eval a X.env) :: starEach es X.env := by rfl) (hpl : (backTo pos (starEach es X.env)).any (·.1) = false := by rfl) : PE X (.Call (.Name x p) (a :: es) [] pos) (tE (zx X cl) (sCall gg fa)) := by
  obtain ⟨f, fd, F, hm, hk, hb, _⟩ := C.ex
  exact pe_w (pe_call F (hr.mono hkj) hg hm hk hb .nil pass0 ha hdb he hpl) fun _ _ _ hh => sCall_rd C.ok hh
end
section
variable {P : Program} {w : World} {K : PySem.W.Frag} {mg : Str → Option Value} {base : Heap} {cl : Str → Option Addr}
theorem ca_def {x : Str} {st : Stmt} {f : Addr} {fd : FuncData} {N ps : List Str} {k : Nat} {g : List TD → Option TD} {B : FS} (D : Df K mg x st f fd) (S : FnScope N ps (defScope st)) (har : ∀ rs r, g rs = some r → rs.length = ps.length)
    (hok : ∀ rs r, g rs = some r → okT r.1 = true)
    (hbi : Binds K fd ps []) (hbk : ∀ (s : Shared) (us : List Value), us.length = ps.length → BindsTo s fd ⟨[], ps.zip us⟩ (ps.zip us))
    (hb : ∀ (cdv : Value) (A : Around) (outer : List Env) (s : Shared) (H : Hp) (E : XK), Room k (A.deeper (PyProof.Rows.envOfC x (defScope st) s.heap.objs.size f cdv)) → XS (cxOf CX0 P w K mg base N x (defScope st) f cdv A outer s H E).nox →
      PSs (cxOf CX0 P w K mg base N x (defScope st) f cdv A outer s H E).nox (defBody st) (tS ⟨K, cl⟩ B))
    (hsem : ∀ rs r, rs.all (fun r => okT r.1) = true → g rs = some r → (B (env0 N.length rs)).bind fin = some r) : Ca P w K mg base cl (k + 1) x ps g :=
  ⟨⟨f, fd, ok_def D.fn S har hb hsem, D.gm, D.fn.kp, hbi, hbk⟩, hok⟩
/-- how keywords bind: h is «fun _ _ _ _ _ _ us hl => match us, hl with | [_, _], _ => rfl» -/
theorem kb_of {x qual : Str} {st : Stmt} {f : Addr} {fd : FuncData} {ps : List Str} (F : Fun K x qual st f fd)
    (h : ∀ (kV doc pm : Value) (an : Option Addr) (cdv ct : Value) (us : List Value), us.length = ps.length → bindArgs (PySem.W.fnOf x qual (defArgs st) (defBody st) (defScope st) .none kV doc pm an cdv ct) ⟨[], ps.zip us⟩ = pure (ps.zip us)) :
    ∀ (s : Shared) (us : List Value), us.length = ps.length → BindsTo s fd ⟨[], ps.zip us⟩ (ps.zip us) := by
  obtain ⟨oc, od, kV, doc, pm, an, cdv, ct, osl, rfl, lk, hcd⟩ := F.ex
  exact fun s us hl => .of_eq (h kV doc pm an cdv ct us hl)
end
def LawOk (ns : List Int) : Prop := ns.length ≤ 63 ∧ ∀ z ∈ ns, Builtin.Int.intBits z ≤ 1048576
end Vf
namespace Vf
open PySem L2
/-! what the simplifier may use: each worth at data that are known -/
section
variable {t u : Tg} {i j : Int} {x y z : Str} {b k : Bool} {xs ys ds : List D} {d : D} {e env : Ev} {n : Nat} {f g : FE} {A B : FS} {r : TD} {rs : List TD}
@[simp] theorem nm_int : nm (t, .int i) = (.N, .int i) := rfl
@[simp] theorem nm_str : nm (t, .str x) = (.N, .str x) := rfl
@[simp] theorem nm_bl : nm (t, .bl b) = (.N, .bl b) := rfl
@[simp] theorem nm_non : nm (t, .non) = (.N, .non) := rfl
@[simp] theorem nm_lst : nm (t, .lst xs) = (t, .lst xs) := rfl
@[simp] theorem nm_scr : nm (t, .scr xs) = (t, .scr xs) := rfl
@[simp] theorem nm_tup : nm (t, .tup xs) = (t, .tup xs) := rfl
@[simp] theorem el_N : el .N = .N := rfl
@[simp] theorem el_B : el .B = .B := rfl
@[simp] theorem el_T : el .T = .T := rfl
@[simp] theorem el_O : el .O = .N := rfl
@[simp] theorem mt2_NN : mt2 .N .N = .N := rfl
@[simp] theorem mt2_NB : mt2 .N .B = .B := rfl
@[simp] theorem mt2_BN : mt2 .B .N = .B := rfl
@[simp] theorem mt2_BB : mt2 .B .B = .B := rfl
@[simp] theorem nm_N : nm (.N, d) = (.N, d) := by cases d <;> rfl
@[simp] theorem dn_N : dn (.N, d) = (.N, d) := rfl
@[simp] theorem dn_B : dn (.B, d) = nm (.B, d) := rfl
@[simp] theorem dn_T : dn (.T, d) = nm (.B, d) := rfl
@[simp] theorem dn_O : dn (.O, d) = nm (.B, d) := rfl
@[simp] theorem up_N : up (.N, d) = (.N, d) := rfl
@[simp] theorem up_B : up (.B, d) = nm (.T, d) := rfl
@[simp] theorem okT_N : okT .N = true := rfl
@[simp] theorem okT_B : okT .B = true := rfl
@[simp] theorem fin_rtN : fin (.rt (.N, d)) = some (.N, d) := rfl
@[simp] theorem fin_rtB : fin (.rt (.B, d)) = some (.B, d) := rfl
@[simp] theorem fin_rtO : fin (.rt (.O, d)) = some (.N, d) := rfl
@[simp] theorem fin_nx : fin (.nx e) = some (.N, .non) := rfl
@[simp] theorem thenO_nx : thenO (.nx e) B = B e := rfl
@[simp] theorem thenO_rt : thenO (.rt r) B = some (.rt r) := rfl
@[simp] theorem thenO_bk : thenO (.bk e) B = some (.bk e) := rfl
@[simp] theorem thenO_ct : thenO (.ct e) B = some (.ct e) := rfl
@[simp] theorem asB_bl : asB (t, .bl b) = some b := rfl
@[simp] theorem tru_bl : tru (t, .bl b) = some b := rfl
@[simp] theorem tru_int : tru (t, .int i) = some (i != 0) := rfl
@[simp] theorem tru_non : tru (t, .non) = some false := rfl
@[simp] theorem tru_lst : tru (t, .lst xs) = some (!xs.isEmpty) := rfl
@[simp] theorem tru_tup : tru (t, .tup xs) = some (!xs.isEmpty) := rfl
@[simp] theorem tru_scr : tru (t, .scr xs) = some (!xs.isEmpty) := rfl
@[simp] theorem oAdd_int : oAdd (t, .int i) (u, .int j) = some (.N, .int (i + j)) := rfl
theorem oAdd_lst (h : xs.length + ys.length ≤ lim) : oAdd (t, .lst xs) (u, .lst ys) = some (mt2 (el t) (el u), .lst (xs ++ ys)) := if_pos h
@[simp] theorem oSub_int : oSub (t, .int i) (u, .int j) = some (.N, .int (i - j)) := rfl
theorem oMul_int (h : bitsOk i j = true) : oMul (t, .int i) (u, .int j) = some (.N, .int (i * j)) := cif_pos h
theorem oFd_int (h : 0 < j ∧ j < 18446744073709551616) : oFd (t, .int i) (u, .int j) = some (.N, .int (i / j)) := cif_pos h
theorem oMod_int (h : 0 < j) : oMod (t, .int i) (u, .int j) = some (.N, .int (i % j)) := cif_pos h
theorem oPow_int (h : 0 ≤ j ∧ j ≤ 1000000 ∧ i.natAbs < 18446744073709551616) : oPow (t, .int i) (u, .int j) = some (.N, .int (i ^ j.toNat)) := cif_pos h
@[simp] theorem eqD_int : eqD (.int i) (.int j) = some (decide (i = j)) := rfl
@[simp] theorem eqD_str : eqD (.str x) (.str y) = some (decide (x = y)) := rfl
@[simp] theorem eqD_bl : eqD (.bl b) (.bl k) = some (decide (b = k)) := rfl
@[simp] theorem oEq_d : oEq (t, d) r = (eqD d r.2).map fun k => (.N, .bl k) := rfl
@[simp] theorem oNe_d : oNe (t, d) r = (eqD d r.2).map fun k => (.N, .bl (!k)) := rfl
@[simp] theorem oLt_int : oLt (t, .int i) (u, .int j) = some (.N, .bl (decide (i < j))) := by show some (Tg.N, D.bl (cdec (i < j))) = _; rw [cdec_eq]
@[simp] theorem oGt_int : oGt (t, .int i) (u, .int j) = some (.N, .bl (decide (j < i))) := by show some (Tg.N, D.bl (cdec (j < i))) = _; rw [cdec_eq]
@[simp] theorem oGe_int : oGe (t, .int i) (u, .int j) = some (.N, .bl (decide (j ≤ i))) := by show some (Tg.N, D.bl (cdec (j ≤ i))) = _; rw [cdec_eq]
@[simp] theorem oIs_bl : oIs (t, .bl b) (u, .bl k) = some (.N, .bl (decide (b = k))) := rfl
@[simp] theorem oIsN_bl : oIsN (t, .bl b) (u, .bl k) = some (.N, .bl (!decide (b = k))) := rfl
@[simp] theorem oIs_nn : oIs (t, .non) (u, .non) = some (.N, .bl true) := rfl
@[simp] theorem oIsN_nn : oIsN (t, .non) (u, .non) = some (.N, .bl false) := rfl
@[simp] theorem oIs_in : oIs (t, .int i) (u, .non) = some (.N, .bl false) := rfl
@[simp] theorem oIsN_in : oIsN (t, .int i) (u, .non) = some (.N, .bl true) := rfl
@[simp] theorem oIs_sn : oIs (t, .str x) (u, .non) = some (.N, .bl false) := rfl
@[simp] theorem oIsN_sn : oIsN (t, .str x) (u, .non) = some (.N, .bl true) := rfl
@[simp] theorem oIs_ln : oIs (t, .lst xs) (u, .non) = some (.N, .bl false) := rfl
@[simp] theorem oIsN_ln : oIsN (t, .lst xs) (u, .non) = some (.N, .bl true) := rfl
@[simp] theorem oIs_tn : oIs (t, .tup xs) (u, .non) = some (.N, .bl false) := rfl
@[simp] theorem oIsN_tn : oIsN (t, .tup xs) (u, .non) = some (.N, .bl true) := rfl
theorem oIx_lst (h : atI xs i = some d) : oIx (t, .lst xs) (u, .int i) = some (nm (el t, d)) := by show (atI xs i).map _ = _; rw [h]; rfl
theorem oIx_scr (h : atI xs i = some d) : oIx (t, .scr xs) (u, .int i) = some (nm (el t, d)) := by show (atI xs i).map _ = _; rw [h]; rfl
theorem oIn_lst (h : (isS d && ds.all isS) = true) : oIn (t, d) (u, .lst ds) = some (.N, .bl (ds.any fun y => eqS y d)) := by
  show ((if isS d && ds.all isS then some (ds.any fun y => eqS y d) else none : Option Bool).map fun k => (Tg.N, D.bl k)) = _
  rw [if_pos h]; rfl
theorem oIn_tup (h : (isS d && ds.all isS) = true) : oIn (t, d) (u, .tup ds) = some (.N, .bl (ds.any fun y => eqS y d)) := by
  show ((if isS d && ds.all isS then some (ds.any fun y => eqS y d) else none : Option Bool).map fun k => (Tg.N, D.bl k)) = _
  rw [if_pos h]; rfl
@[simp] theorem lenB_lst : lenB [(t, .lst xs)] = some (.N, .int xs.length) := rfl
@[simp] theorem lenB_scr : lenB [(t, .scr xs)] = some (.N, .int xs.length) := rfl
@[simp] theorem lenB_tup : lenB [(t, .tup xs)] = some (.N, .int xs.length) := rfl
@[simp] theorem intB_int : intB [(t, .int i)] = some (.N, .int i) := rfl
@[simp] theorem intB_bl : intB [(t, .bl b)] = some (.N, .int (if b then 1 else 0)) := rfl
@[simp] theorem tupB_lst : tupB [(t, .lst xs)] = some (el t, .tup xs) := rfl
@[simp] theorem tupB_scr : tupB [(t, .scr xs)] = some (el t, .tup xs) := rfl
@[simp] theorem tupB_tup : tupB [(t, .tup xs)] = some (t, .tup xs) := rfl
@[simp] theorem listB_lst : listB [(t, .lst xs)] = some (el t, xs) := rfl
@[simp] theorem listB_scr : listB [(t, .scr xs)] = some (el t, xs) := rfl
@[simp] theorem listB_tup : listB [(t, .tup xs)] = some (el t, xs) := rfl
@[simp] theorem isiD_int {T : String} : isiD (.int i) T = kitB "int" T := rfl
@[simp] theorem isiD_bl {T : String} : isiD (.bl b) T = kitB "bool" T := rfl
@[simp] theorem isiD_str {T : String} : isiD (.str x) T = kitB "str" T := rfl
@[simp] theorem isiD_non {T : String} : isiD .non T = kitB "NoneType" T := rfl
@[simp] theorem isiD_lst {T : String} : isiD (.lst xs) T = kitB "list" T := rfl
@[simp] theorem isiD_scr {T : String} : isiD (.scr xs) T = kitB "list" T := rfl
@[simp] theorem isiD_tup {T : String} : isiD (.tup xs) T = kitB "tuple" T := rfl
@[simp] theorem itemsOf_Nl : itemsOf (.N, .lst xs) = some (xs.map fun d => nm (.N, d)) := rfl
@[simp] theorem itemsOf_Bl : itemsOf (.B, .lst xs) = some (xs.map fun d => nm (.B, d)) := rfl
@[simp] theorem itemsOf_Ns : itemsOf (.N, .scr xs) = some (xs.map fun d => nm (.N, d)) := rfl
@[simp] theorem itemsOf_Bs : itemsOf (.B, .scr xs) = some (xs.map fun d => nm (.B, d)) := rfl
@[simp] theorem itemsOf_Nt : itemsOf (.N, .tup xs) = some (xs.map fun d => nm (.N, d)) := rfl
@[simp] theorem itemsOf_Bt : itemsOf (.B, .tup xs) = some (xs.map fun d => nm (.B, d)) := rfl
@[simp] theorem itemsR_l : itemsR (t, .lst xs) = some (xs.map fun d => nm (el t, d)) := rfl
@[simp] theorem itemsR_s : itemsR (t, .scr xs) = some (xs.map fun d => nm (el t, d)) := rfl
@[simp] theorem itemsR_t : itemsR (t, .tup xs) = some (xs.map fun d => nm (el t, d)) := rfl
@[simp] theorem signsOf_s : signsOf (t, .str z) = some (z.cps.toList.map fun c => (.N, .str ⟨#[c]⟩)) := rfl
@[simp] theorem unp_t : unp (t, .tup xs) = some (xs.map fun d => nm (el t, d)) := rfl
@[simp] theorem unp_l : unp (t, .lst xs) = some (xs.map fun d => nm (el t, d)) := rfl
@[simp] theorem setNil_nil : setNil [] env = some env := rfl
@[simp] theorem setCons_cons {s : TD → Ev → Option Ev} {l : List TD → Ev → Option Ev} : setCons s l (r :: rs) env = (s r env).bind fun e => l rs e := rfl
def setL (i : Nat) (r : TD) (l : List Sl) : Option (List Sl) := if i < l.length then (match r.1 with
  | .N => some (l.set i (.val .N r.2))
  | .B => some (l.set i (.val .B r.2))
  | _ => none) else none
@[simp] theorem setV_mk {l : List Sl} {T : Tb} : setV n r ⟨l, T⟩ = (setL n r l).map fun l' => ⟨l', T⟩ := by
  obtain ⟨t, d⟩ := r
  unfold setV setL
  by_cases h : n < l.length
  · rw [if_pos h, if_pos h]
    cases t <;> rfl
  · rw [if_neg h, if_neg h]
    rfl
@[simp] theorem put_mk {l : List Sl} {T : Tb} {x : Sl} : Ev.put ⟨l, T⟩ n x = ⟨l.set n x, T⟩ := rfl
@[simp] theorem setL_0N {s : Sl} {l : List Sl} : setL 0 (.N, d) (s :: l) = some (.val .N d :: l) := rfl
@[simp] theorem setL_0B {s : Sl} {l : List Sl} : setL 0 (.B, d) (s :: l) = some (.val .B d :: l) := rfl
@[simp] theorem setL_s {s : Sl} {l : List Sl} : setL (n + 1) r (s :: l) = (setL n r l).map fun e => s :: e := by
  obtain ⟨t, d⟩ := r
  unfold setL
  by_cases h : n < l.length
  · rw [if_pos h, if_pos (by simpa using h)]
    cases t <;> rfl
  · rw [if_neg h, if_neg (by simpa using h)]
    rfl
@[simp] theorem cell_N : cell .N = .N := rfl
@[simp] theorem cell_B : cell .B = .B := rfl
@[simp] theorem cell_T : cell .T = .T := rfl
@[simp] theorem cell_O : cell .O = .T := rfl
@[simp] theorem tagL_nil : tagL [] = .N := rfl
@[simp] theorem tagL_cons : tagL (r :: rs) = mt2 (cell r.1) (tagL rs) := rfl
theorem tagL_N : ∀ {rs : List TD}, (∀ r ∈ rs, r.1 = .N) → tagL rs = .N
  | [], _ => rfl
  | r :: rs, h => by
    rw [tagL_cons, h r List.mem_cons_self, tagL_N fun x hx => h x (List.mem_cons_of_mem _ hx)]
    rfl
@[simp] theorem sVar_0v {l : List Sl} {T : Tb} : sVar 0 ⟨.val t d :: l, T⟩ = some (nm (t, d)) := rfl
@[simp] theorem sVar_0o {l : List Sl} {T : Tb} : sVar 0 ⟨.own ds :: l, T⟩ = some (.O, .lst ds) := rfl
@[simp] theorem sVar_s {s : Sl} {l : List Sl} {T : Tb} : sVar (n + 1) ⟨s :: l, T⟩ = sVar n ⟨l, T⟩ := rfl
@[simp] theorem forL_nil {s : TD → Ev → Option Ev} : forL A s [] env = some (.nx env) := rfl
def loopK (A : FS) (s : TD → Ev → Option Ev) (rs : List TD) : Out → Option Out
  | .nx e' => forL A s rs e'
  | .ct e' => forL A s rs e'
  | .bk e' => some (.nx e')
  | .rt r => some (.rt r)
  | .rth x T => some (.rth x T)
theorem forL_cons {s : TD → Ev → Option Ev} : forL A s (r :: rs) env = (s r env).bind fun e => (A e).bind (loopK A s rs) := rfl
@[simp] theorem loopK_nx {s : TD → Ev → Option Ev} : loopK A s rs (.nx e) = forL A s rs e := rfl
@[simp] theorem loopK_ct {s : TD → Ev → Option Ev} : loopK A s rs (.ct e) = forL A s rs e := rfl
@[simp] theorem loopK_bk {s : TD → Ev → Option Ev} : loopK A s rs (.bk e) = some (.nx e) := rfl
@[simp] theorem loopK_rt {s : TD → Ev → Option Ev} : loopK A s rs (.rt r) = some (.rt r) := rfl
/-- one turn that goes on -/
theorem forL_step {s : TD → Ev → Option Ev} {e1 e2 : Ev} (h1 : s r env = some e1) (h2 : A e1 = some (.nx e2)) : forL A s (r :: rs) env = forL A s rs e2 := by
  rw [forL_cons, h1]
  show (A e1).bind _ = _
  rw [h2]
  rfl
def appR (n : Nat) (env : Ev) (ds : List D) (r : TD) : Option Out := match r.1 with
  | .N => if ds.length ≤ lim then some (.nx (env.put n (.own (ds ++ [r.2])))) else none
  | _ => none
def appK (n : Nat) (f : FE) (env : Ev) : Sl → Option Out
  | .own ds => (f env).bind (appR n env ds)
  | _ => none
@[simp] theorem sApp_eq : sApp n f env = (env.s[n]?).bind (appK n f env) := by
  unfold sApp
  cases env.s[n]? with
  | none => rfl
  | some s => cases s <;> rfl
@[simp] theorem appK_own : appK n f env (.own ds) = (f env).bind (appR n env ds) := rfl
theorem appR_N (h : ds.length ≤ lim) : appR n env ds (.N, d) = some (.nx (env.put n (.own (ds ++ [d])))) := if_pos h
def extR (n : Nat) (env : Ev) (ds : List D) (r : TD) : Option Out := match r.1, r.2 with
  | .N, .lst es => if ds.length + es.length ≤ lim then some (.nx (env.put n (.own (ds ++ es)))) else none
  | _, _ => none
def extK (n : Nat) (f : FE) (env : Ev) : Sl → Option Out
  | .own ds => (f env).bind (extR n env ds)
  | _ => none
@[simp] theorem sExt_eq : sExt n f env = (env.s[n]?).bind (extK n f env) := by
  unfold sExt
  cases env.s[n]? with
  | none => rfl
  | some s => cases s <;> rfl
@[simp] theorem extK_own : extK n f env (.own ds) = (f env).bind (extR n env ds) := rfl
def ownK (n : Nat) (env : Ev) (r : Tg × List D) : Option Out := if n < env.s.length then (match r.1 with
  | .N => some (.nx (env.put n (.own r.2)))
  | _ => none) else none
@[simp] theorem sOwn_eq {fl : FL} : sOwn n fl env = (fl env).bind (ownK n env) := rfl
@[simp] theorem ownK_N (h : n < env.s.length) : ownK n env (.N, ds) = some (.nx (env.put n (.own ds))) := if_pos h
def frzK (n : Nat) (env : Ev) : Sl → Option Out
  | .own ds => some (.nx (env.put n (.val .N (.lst ds))))
  | _ => some (.nx env)
@[simp] theorem sFrz_eq : sFrz n env = (env.s[n]?).bind (frzK n env) := by
  unfold sFrz
  cases env.s[n]? with
  | none => rfl
  | some s => cases s <;> rfl
@[simp] theorem frzK_own : frzK n env (.own ds) = some (.nx (env.put n (.val .N (.lst ds)))) := rfl
@[simp] theorem frzK_val : frzK n env (.val t d) = some (.nx env) := rfl
@[simp] theorem sR1_eq : sR1 f env = (f env).bind r1K := rfl
theorem r1K_int (h : j < 4611686018427387904 ∧ -4611686018427387904 ≤ j) : r1K (t, .int j) = some (iRng j.toNat 0) := cif_pos h
@[simp] theorem sR2_eq : sR2 f g env = (f env).bind fun r => (g env).bind fun r' => r2K r r' := rfl
def ptK (r : TD) : Option (Option Int) := match r.2 with | .int i => some (some i) | _ => none
@[simp] theorem sPt_eq : sPt f env = (f env).bind ptK := rfl
@[simp] theorem ptK_int : ptK (t, .int i) = some (some i) := rfl
theorem sSeq_nx {e2 : Ev} (h : A env = some (.nx e2)) : sSeq A B env = B e2 := by unfold sSeq; rw [h]; rfl
theorem sSeq_rt (h : A env = some (.rt r)) : sSeq A B env = some (.rt r) := by unfold sSeq; rw [h]; rfl
theorem sFor_at {fi : FI} {s : TD → Ev → Option Ev} {items : List TD} (h : fi env = some items) : sFor fi s A env = forL A s items env := by unfold sFor; rw [h]; rfl
theorem sIf_t {c : FT} (h : c env = some true) : sIf c A B env = A env := by unfold sIf; rw [h]; rfl
theorem sIf_f {c : FT} (h : c env = some false) : sIf c A B env = B env := by unfold sIf; rw [h]; rfl
@[simp] theorem slD_tup {lo hi : Option Int} : slD (t, .tup xs) lo hi = some (el t, .tup (cutD xs lo hi)) := rfl
theorem oAdd_tup (h : xs.length + ys.length ≤ lim) : oAdd (t, .tup xs) (u, .tup ys) = some (mt2 (el t) (el u), .tup (xs ++ ys)) := if_pos h
@[simp] theorem itemsRev_Nl : itemsRev (.N, .lst xs) = some (xs.reverse.map fun d => nm (.N, d)) := rfl
@[simp] theorem itemsRev_Bl : itemsRev (.B, .lst xs) = some (xs.reverse.map fun d => nm (.B, d)) := rfl
@[simp] theorem itemsRev_Nt : itemsRev (.N, .tup xs) = some (xs.reverse.map fun d => nm (.N, d)) := rfl
@[simp] theorem itemsRev_Bt : itemsRev (.B, .tup xs) = some (xs.reverse.map fun d => nm (.B, d)) := rfl
def augK (g : Int → Int → Int) (i : Nat) (env : Ev) (a b : TD) : Option Out := match a.2, b.2 with
  | .int x, .int y => (setV i (.N, .int (g x y)) env).map .nx
  | _, _ => none
@[simp] theorem augI_eq {g : Int → Int → Int} : augI g n f env = (sVar n env).bind fun a => (f env).bind fun b => augK g n env a b := rfl
@[simp] theorem augK_int {g : Int → Int → Int} : augK g n env (t, .int i) (u, .int j) = (setV n (.N, .int (g i j)) env).map .nx := rfl
@[simp] theorem slD_lst {lo hi : Option Int} : slD (t, .lst xs) lo hi = some (el t, .lst (cutD xs lo hi)) := rfl
@[simp] theorem env0_1 {a : TD} : env0 n [a] = ⟨.val a.1 a.2 :: List.replicate (n - 1) .un, []⟩ := rfl
@[simp] theorem env0_2 {a b : TD} : env0 n [a, b] = ⟨.val a.1 a.2 :: .val b.1 b.2 :: List.replicate (n - 2) .un, []⟩ := rfl
@[simp] theorem env0_3 {a b c : TD} : env0 n [a, b, c] = ⟨.val a.1 a.2 :: .val b.1 b.2 :: .val c.1 c.2 :: List.replicate (n - 3) .un, []⟩ := rfl
@[simp] theorem env0_0 : env0 n [] = ⟨List.replicate n .un, []⟩ := rfl
@[simp] theorem env0_4 {a b c d : TD} : env0 n [a, b, c, d] = ⟨.val a.1 a.2 :: .val b.1 b.2 :: .val c.1 c.2 :: .val d.1 d.2 :: List.replicate (n - 4) .un, []⟩ := rfl
end
end Vf
namespace Lw
open PySem L2 Vf
/-! what is handed back may be handed on -/
def gN (h : List TD → Option D) : List TD → Option TD := fun rs => (h rs).map fun d => (.N, d)
theorem gN_ok {h : List TD → Option D} (rs : List TD) (r : TD) (e : gN h rs = some r) : okT r.1 = true := by
  obtain ⟨d, _, rfl⟩ := Option.map_eq_some_iff.mp e
  rfl
theorem gN_len {h : List TD → Option D} {n : Nat} (hl : ∀ rs d, h rs = some d → rs.length = n) (rs : List TD) (r : TD) (e : gN h rs = some r) : rs.length = n := by
  obtain ⟨d, q, _⟩ := Option.map_eq_some_iff.mp e
  exact hl rs d q
theorem gN_sem {h : List TD → Option D} {F : FS} {n : Nat} (hs : ∀ rs d, rs.all (fun r => okT r.1) = true → h rs = some d → (F (env0 n rs)).bind fin = some (.N, d)) (rs : List TD) (r : TD) (ha : rs.all (fun r => okT r.1) = true) (e : gN h rs = some r) : (F (env0 n rs)).bind fin = some r := by
  obtain ⟨d, q, rfl⟩ := Option.map_eq_some_iff.mp e
  exact hs rs d ha q
theorem gN_of {h : List TD → Option D} {rs : List TD} {d : D} (e : h rs = some d) : gN h rs = some (.N, d) := by
  unfold gN
  rw [e]
  rfl
/-! lists of ints -/
def intsOf : List D → Option (List Int)
  | [] => some []
  | .int i :: r => (intsOf r).map (i :: ·)
  | _ :: _ => none
theorem intsOf_map : ∀ ns : List Int, intsOf (ns.map D.int) = some ns
  | [] => rfl
  | n :: ns => by
    rw [List.map_cons]
    show (intsOf (ns.map D.int)).map (n :: ·) = _
    rw [intsOf_map ns]
    rfl
theorem intsOf_some : ∀ {ds : List D} {ns : List Int}, intsOf ds = some ns → ds = ns.map D.int
  | [], ns, h => by cases h; rfl
  | .int i :: r, ns, h => by
    obtain ⟨ms, h1, rfl⟩ := Option.map_eq_some_iff.mp h
    rw [List.map_cons, intsOf_some h1]
  | .non :: _, _, h => by cases h
  | .bl _ :: _, _, h => by cases h
  | .str _ :: _, _, h => by cases h
  | .lst _ :: _, _, h => by cases h
  | .scr _ :: _, _, h => by cases h
  | .tup _ :: _, _, h => by cases h
  | .ins _ _ _ :: _, _, h => by cases h
  | .dic _ _ :: _, _, h => by cases h
/-! sizes of ints -/
theorem bits_of {i : Int} {n : Nat} (h : i.natAbs < 2 ^ n) : Builtin.Int.intBits i ≤ n := PySem.intBits_le_iff.mpr h
theorem bits_ok {i j : Int} {m n : Nat} (hi : Builtin.Int.intBits i ≤ m) (hj : Builtin.Int.intBits j ≤ n) (h : m + n ≤ 134217728) : bitsOk i j = true := decide_eq_true (by omega)
theorem bits64 {i : Int} (h1 : -18446744073709551616 < i) (h2 : i < 18446744073709551616) : Builtin.Int.intBits i ≤ 64 := bits_of (by omega)
theorem bits_sm {i j : Int} (h1 : -18446744073709551616 < i) (h2 : i < 18446744073709551616) (h3 : -18446744073709551616 < j) (h4 : j < 18446744073709551616) : bitsOk i j = true := bits_ok (bits64 h1 h2) (bits64 h3 h4) (by decide)
theorem bits_smr {i j : Int} {m : Nat} (hi : Builtin.Int.intBits i ≤ m) (hm : m ≤ 134217000) (h3 : -18446744073709551616 < j) (h4 : j < 18446744073709551616) : bitsOk i j = true := bits_ok hi (bits64 h3 h4) (by omega)
/-! lookups -/
theorem atI_map {α : Type} {f : α → D} {xs : List α} {j : Nat} (h : j < xs.length) : atI (xs.map f) (j : Int) = some (f xs[j]) := by
  refine atI_nat ?_
  rw [List.getElem?_map, List.getElem?_eq_getElem h]
  rfl
end Lw
namespace Lw
open PySem L2 Vf
@[simp] theorem kit1 : kitB "int" "int" = some true := by decide +kernel
@[simp] theorem kit2 : kitB "int" "bool" = some false := by decide +kernel
@[simp] theorem kit3 : kitB "bool" "int" = some true := by decide +kernel
@[simp] theorem kit4 : kitB "bool" "bool" = some true := by decide +kernel
@[simp] theorem kit5 : kitB "str" "int" = some false := by decide +kernel
@[simp] theorem kit6 : kitB "str" "bool" = some false := by decide +kernel
@[simp] theorem kit7 : kitB "str" "str" = some true := by decide +kernel
@[simp] theorem kit8 : kitB "NoneType" "int" = some false := by decide +kernel
@[simp] theorem kit9 : kitB "NoneType" "bool" = some false := by decide +kernel
@[simp] theorem kit10 : kitB "tuple" "tuple" = some true := by decide +kernel
@[simp] theorem kit11 : kitB "list" "tuple" = some false := by decide +kernel
@[simp] theorem kit12 : kitB "list" "list" = some true := by decide +kernel
@[simp] theorem kit13 : kitB "tuple" "list" = some false := by decide +kernel
@[simp] theorem kit14 : kitB "int" "tuple" = some false := by decide +kernel
@[simp] theorem kit15 : kitB "str" "tuple" = some false := by decide +kernel
@[simp] theorem kit16 : kitB "int" "str" = some false := by decide +kernel
@[simp] theorem kit17 : kitB "NoneType" "tuple" = some false := by decide +kernel
@[simp] theorem kit18 : kitB "NoneType" "str" = some false := by decide +kernel
@[simp] theorem kit19 : kitB "bool" "str" = some false := by decide +kernel
@[simp] theorem kit20 : kitB "tuple" "str" = some false := by decide +kernel
@[simp] theorem kit21 : kitB "list" "str" = some false := by decide +kernel
@[simp] theorem kit22 : kitB "tuple" "int" = some false := by decide +kernel
@[simp] theorem kit23 : kitB "list" "int" = some false := by decide +kernel
/-! _law_whole -/
/-! _law_cell -/
def seedF (s : Int) (ns : List Int) : Int := ns.foldl (fun s c => (s * 31 + c % 1000003) % 1000003) s
def seedM (ns : List Int) : Int := seedF 17 ns
def cellM (ns : List Int) (k : Nat) : Int := if h : k < ns.length then ns[k] else ((seedM ns + 7) * ((k : Int) + 3) * 69621) % 2147483647
theorem seedM_bd : ∀ (ns : List Int), 0 ≤ seedM ns ∧ seedM ns < 1000003 := by
  have aux : ∀ (ns : List Int) (s : Int), 0 ≤ s ∧ s < 1000003 → 0 ≤ ns.foldl (fun s c => (s * 31 + c % 1000003) % 1000003) s ∧ ns.foldl (fun s c => (s * 31 + c % 1000003) % 1000003) s < 1000003 := by
    intro ns
    induction ns with
    | nil => intro s h; exact h
    | cons n ns ih =>
      intro s h
      rw [List.foldl_cons]
      exact ih _ (by omega)
  exact fun ns => aux ns 17 (by decide)
open Classical in
noncomputable def h_law_cell (rs : List TD) : Option D := match rs with
  | [(_, .scr ds), (_, .int k)] => (intsOf ds).bind fun ns => if LawOk ns ∧ 0 ≤ k ∧ k < 1000000 then some (.int (cellM ns k.toNat)) else none
  | _ => none
noncomputable abbrev g_law_cell := gN h_law_cell
theorem g_law_cell_at {t u : Tg} {ns : List Int} {k : Nat} (h : LawOk ns) (hk : k < 1000000) : g_law_cell [(t, .scr (ns.map D.int)), (u, .int (k : Int))] = some (.N, .int (cellM ns k)) := by
  refine gN_of ?_
  unfold h_law_cell
  simp only [intsOf_map, Option.bind_some]
  rw [if_pos ⟨h, by omega, by omega⟩]
  rfl
abbrev N_law_cell : List Str := ["script", "k", "seed", "cell"]
noncomputable def F_law_cell : FS := (sSeq (sIf (sBl (sOp oLt (sVar 1) (sB lenB (sCons (sVar 0) sNil))))
  (sRet (sOp oIx (sVar 0) (sVar 1)))
  sNx) (sSeq (sSet 2 (sLit (.int 17))) (sSeq (sFor (sIt (sVar 0)) (setV 3)
  (sSet 2 (sOp oMod (sB intB (sCons (sOp oAdd (sOp oMul (sVar 2) (sLit (.int 31))) (sOp oMod (sB intB (sCons (sVar 3) sNil)) (sLit (.int 1000003)))) sNil)) (sLit (.int 1000003))))) (sRet (sOp oMod (sB intB (sCons (sOp oMul (sOp oMul (sOp oAdd (sVar 2) (sLit (.int 7))) (sOp oAdd (sVar 1) (sLit (.int 3)))) (sLit (.int 69621))) sNil)) (sLit (.int 2147483647)))))))
theorem cell_loop {A : FS} {a b : Sl} (hA : ∀ (s c : Int), 0 ≤ s → s < 1000003 → A ⟨[a, b, .val .N (.int s), .val .N (.int c)], []⟩ = some (.nx ⟨[a, b, .val .N (.int ((s * 31 + c % 1000003) % 1000003)), .val .N (.int c)], []⟩)) :
    ∀ (ns : List Int) (s : Int) (c : Sl), 0 ≤ s → s < 1000003 → ∃ c', forL A (setV 3) (ns.map fun n => (.N, D.int n)) ⟨[a, b, .val .N (.int s), c], []⟩ = some (.nx ⟨[a, b, .val .N (.int (seedF s ns)), c'], []⟩)
  | [], s, c, h0, h1 => ⟨c, rfl⟩
  | n :: ns, s, c, h0, h1 => by
    obtain ⟨c', h⟩ := cell_loop hA ns ((s * 31 + n % 1000003) % 1000003) (.val .N (.int n)) (by omega) (by omega)
    refine ⟨c', ?_⟩
    show _ = some (Out.nx ⟨[a, b, .val .N (.int (seedF ((s * 31 + n % 1000003) % 1000003) ns)), c'], []⟩)
    rw [List.map_cons, ← h]
    show ((setV 3 (.N, .int n) ⟨[a, b, .val .N (.int s), c], []⟩).bind fun e => (A e).bind _) = _
    have : setV 3 (.N, D.int n) ⟨[a, b, .val .N (.int s), c], []⟩ = some ⟨[a, b, .val .N (.int s), .val .N (.int n)], []⟩ := by simp
    rw [this]
    show (A ⟨[a, b, .val .N (.int s), .val .N (.int n)], []⟩).bind _ = _
    rw [hA s n h0 h1]
    rfl
theorem sem_law_cell : ∀ rs r, rs.all (fun r => okT r.1) = true → g_law_cell rs = some r → (F_law_cell (env0 N_law_cell.length rs)).bind fin = some r := gN_sem (by
  intro rs d ha h
  unfold h_law_cell at h
  split at h
  · rename_i t ds u k
    obtain ⟨ns, h1, h2⟩ := Option.bind_eq_some_iff.mp h
    split at h2
    · rename_i hc
      cases h2
      obtain ⟨hl, hk0, hk1⟩ := hc
      have e := intsOf_some h1
      subst e
      obtain ⟨j, rfl⟩ : ∃ j : Nat, k = (j : Int) := ⟨k.toNat, by omega⟩
      by_cases hj : j < ns.length
      · have h3 : atI (ns.map D.int) (j : Int) = some (.int ns[j]) := atI_map hj
        simp [F_law_cell, cellM, hj, oIx_scr h3]
      · obtain ⟨s0, s1⟩ := seedM_bd ns
        obtain ⟨c', hh⟩ := cell_loop (a := .val t (.scr (ns.map D.int))) (b := .val u (.int (j : Int))) (A := (sSet 2 (sOp oMod (sB intB (sCons (sOp oAdd (sOp oMul (sVar 2) (sLit (.int 31))) (sOp oMod (sB intB (sCons (sVar 3) sNil)) (sLit (.int 1000003)))) sNil)) (sLit (.int 1000003)))))
          (fun s c h0 h1 => by
            have hb : bitsOk s 31 = true := bits_sm (by omega) (by omega) (by decide) (by decide)
            simp [oMul_int hb, oMod_int]) ns 17 .un (by decide) (by decide)
        have b1 : bitsOk (seedM ns + 7) ((j : Int) + 3) = true := bits_sm (by omega) (by omega) (by omega) (by omega)
        have b2 : bitsOk ((seedM ns + 7) * ((j : Int) + 3)) 69621 = true := by
          refine bits_smr (m := 128) ?_ (by decide) (by decide) (by decide)
          exact Nat.le_trans (PySem.intBits_mul_le (bits64 (by omega) (by omega)) (bits64 (by omega) (by omega))) (by decide)
        have hj' : ¬ ((j : Int) < (ns.length : Int)) := by omega
        simp only [List.all_cons, Bool.and_eq_true] at ha
        have hi : itemsOf (t, .scr (ns.map D.int)) = some (ns.map fun n => (Tg.N, D.int n)) := by
          cases t <;> first | exact Bool.noConfusion ha.1 | (simp [List.map_map, Function.comp_def])
        have hc : cellM ns j = (seedM ns + 7) * ((j : Int) + 3) * 69621 % 2147483647 := dif_neg hj
        have hh : forL _ _ _ _ = some (Out.nx ⟨[_, _, .val .N (.int (seedM ns)), c'], []⟩) := hh
        simp [F_law_cell, hj', hi, hh, oMul_int b1, oMul_int b2, oMod_int, hc]
    · cases h2
  · cases h)
theorem len_law_cell : ∀ rs r, g_law_cell rs = some r → rs.length = 2 := gN_len (by intro rs d h; unfold h_law_cell at h; split at h <;> first | rfl | cases h)
theorem okt_law_cell : ∀ rs r, g_law_cell rs = some r → okT r.1 = true := gN_ok
theorem cif_some {α : Type} {p : Prop} {a : Option α} {b : α} (h : cif p a none = some b) : p ∧ a = some b := by
  unfold cif at h
  split at h
  · exact ⟨by assumption, h⟩
  · cases h
/-! _law_digits -/
def bigD : Int → List Int → List Int
  | _, [] => []
  | r, s :: ss => r % s :: bigD (r / s) ss
def restD : Int → List Int → Int
  | r, [] => r
  | r, s :: ss => restD (r / s) ss
def seedD (seed k : Int) : Int := (seed * 48271 + 974711 * k + 12345) % 2147483647
def twiceD (seed : Int) : Int := seed * (seed / 65537 + 3) % 2147483629
def smallD : Int → Int → List Int → List Int
  | _, _, [] => []
  | seed, k, s :: ss => twiceD (seedD seed k) / 19 % s :: smallD (seedD seed k) (k + 1) ss
def digitsM (c : Int) (ss : List Int) : List Int := if c ≥ 1000000000000000000 then bigD (c - 1000000000000000000) ss else smallD (c % 2147483629) 0 ss
def SizesOk (ss : List Int) : Prop := (∀ s ∈ ss, 0 < s ∧ s < 4611686018427387904) ∧ ss.length ≤ 10000
theorem bigD_get : ∀ (ss : List Int) (r : Int) (k : Nat) (hk : k < ss.length), (∀ s ∈ ss, 0 < s) → ∃ d, (bigD r ss)[k]? = some d ∧ 0 ≤ d ∧ d < ss[k]
  | s :: ss, r, 0, _, h => ⟨r % s, rfl, Int.emod_nonneg _ (by have := h s List.mem_cons_self; omega), Int.emod_lt_of_pos _ (h s List.mem_cons_self)⟩
  | s :: ss, r, k + 1, hk, h => by
    obtain ⟨d, e, h1⟩ := bigD_get ss (r / s) k (by simpa using hk) fun x hx => h x (List.mem_cons_of_mem _ hx)
    exact ⟨d, by simpa [bigD] using e, by simpa using h1⟩
theorem smallD_get : ∀ (ss : List Int) (r j : Int) (k : Nat) (hk : k < ss.length), (∀ s ∈ ss, 0 < s) → ∃ d, (smallD r j ss)[k]? = some d ∧ 0 ≤ d ∧ d < ss[k]
  | s :: ss, r, j, 0, _, h => ⟨_, rfl, Int.emod_nonneg _ (by have := h s List.mem_cons_self; omega), Int.emod_lt_of_pos _ (h s List.mem_cons_self)⟩
  | s :: ss, r, j, k + 1, hk, h => by
    obtain ⟨d, e, h1⟩ := smallD_get ss (seedD r j) (j + 1) k (by simpa using hk) fun x hx => h x (List.mem_cons_of_mem _ hx)
    exact ⟨d, by simpa [smallD] using e, by simpa using h1⟩
theorem bigD_len : ∀ (ss : List Int) (r : Int), (bigD r ss).length = ss.length
  | [], _ => rfl
  | _ :: ss, r => congrArg Nat.succ (bigD_len ss _)
theorem smallD_len : ∀ (ss : List Int) (r j : Int), (smallD r j ss).length = ss.length
  | [], _, _ => rfl
  | _ :: ss, r, j => congrArg Nat.succ (smallD_len ss _ _)
theorem digitsM_len (c : Int) (ss : List Int) : (digitsM c ss).length = ss.length := by
  unfold digitsM
  split
  · exact bigD_len ss _
  · exact smallD_len ss _ _
/-- each digit lies below its size -/
theorem digitsM_get {c : Int} {ss : List Int} (h : SizesOk ss) (k : Nat) (hk : k < ss.length) : ∃ d, (digitsM c ss)[k]? = some d ∧ 0 ≤ d ∧ d < ss[k] := by
  unfold digitsM
  split
  · exact bigD_get ss _ k hk fun s hs => (h.1 s hs).1
  · exact smallD_get ss _ _ k hk fun s hs => (h.1 s hs).1
noncomputable def h_law_digits (rs : List TD) : Option D := match rs with
  | [(_, .int c), (_, .lst ds)] => (intsOf ds).bind fun ss => cif (SizesOk ss) (some (.lst ((digitsM c ss).map D.int))) none
  | _ => none
noncomputable abbrev g_law_digits := gN h_law_digits
theorem g_law_digits_at {t u : Tg} {c : Int} {ss : List Int} (h : SizesOk ss) : g_law_digits [(t, .int c), (u, .lst (ss.map D.int))] = some (.N, .lst ((digitsM c ss).map D.int)) := by
  refine gN_of ?_
  unfold h_law_digits
  simp only [intsOf_map, Option.bind_some]
  exact cif_pos h
theorem len_law_digits : ∀ rs r, g_law_digits rs = some r → rs.length = 2 := gN_len (by intro rs d h; unfold h_law_digits at h; split at h <;> first | rfl | cases h)
theorem okt_law_digits : ∀ rs r, g_law_digits rs = some r → okT r.1 = true := gN_ok
abbrev N_law_digits : List Str := ["cell", "sizes", "row", "rest", "size", "seed", "k", "twice"]
noncomputable def B_law_digits_1 : FS := (sSeq (sApp 2 (sOp oMod (sB intB (sCons (sVar 3) sNil)) (sVar 4))) (sSet 3 (sOp oFd (sB intB (sCons (sVar 3) sNil)) (sVar 4))))
noncomputable def B_law_digits_2 : FS := (sSeq (sSet 5 (sOp oMod (sB intB (sCons (sOp oAdd (sOp oAdd (sOp oMul (sVar 5) (sLit (.int 48271))) (sOp oMul (sLit (.int 974711)) (sVar 6))) (sLit (.int 12345))) sNil)) (sLit (.int 2147483647)))) (sSeq (sSet 7 (sOp oMod (sB intB (sCons (sOp oMul (sVar 5) (sOp oAdd (sOp oFd (sVar 5) (sLit (.int 65537))) (sLit (.int 3)))) sNil)) (sLit (.int 2147483629)))) (sApp 2 (sOp oMod (sOp oFd (sVar 7) (sLit (.int 19))) (sOp oIx (sVar 1) (sVar 6))))))
noncomputable def F_law_digits : FS := (sSeq (sOwn 2 (sLd sNil)) (sSeq (sSet 3 (sB intB (sCons (sVar 0) sNil))) (sSeq (sIf (sBl (sOp oGe (sVar 3) (sOp oPow (sLit (.int 10)) (sLit (.int 18)))))
  (sSeq (sSet 3 (sOp oSub (sVar 3) (sOp oPow (sLit (.int 10)) (sLit (.int 18))))) (sSeq (sFor (sIt (sVar 1)) (setV 4)
  B_law_digits_1) (sRet (sVar 2))))
  sNx) (sSeq (sSet 5 (sOp oMod (sB intB (sCons (sVar 3) sNil)) (sLit (.int 2147483629)))) (sSeq (sFor (sR1 (sB lenB (sCons (sVar 1) sNil))) (setV 6)
  B_law_digits_2) (sRet (sVar 2)))))))
theorem dg_loop1 (C S s5 s6 s7 : Sl) : ∀ (ss : List Int) (r : Int) (row : List Int) (s4 : Sl), (∀ s ∈ ss, 0 < s ∧ s < 4611686018427387904) → row.length + ss.length ≤ lim →
    ∃ s4', forL B_law_digits_1 (setV 4) (ss.map fun s => (Tg.N, D.int s)) ⟨[C, S, .own (row.map D.int), .val .N (.int r), s4, s5, s6, s7], []⟩ = some (.nx ⟨[C, S, .own ((row ++ bigD r ss).map D.int), .val .N (.int (restD r ss)), s4', s5, s6, s7], []⟩)
  | [], r, row, s4, _, _ => ⟨s4, by simp [bigD, restD]⟩
  | s :: ss, r, row, s4, h, hl => by
    rw [List.length_cons] at hl
    obtain ⟨h0, h1⟩ := h s List.mem_cons_self
    obtain ⟨s4', e⟩ := dg_loop1 C S s5 s6 s7 ss (r / s) (row ++ [r % s]) (.val .N (.int s)) (fun x hx => h x (List.mem_cons_of_mem _ hx)) (by simp; omega)
    refine ⟨s4', ?_⟩
    have ha : (row.map D.int).length ≤ lim := by simp; omega
    have e2 : B_law_digits_1 ⟨[C, S, .own (row.map D.int), .val .N (.int r), .val .N (.int s), s5, s6, s7], []⟩ = some (.nx ⟨[C, S, .own ((row ++ [r % s]).map D.int), .val .N (.int (r / s)), .val .N (.int s), s5, s6, s7], []⟩) := by
      simp [B_law_digits_1, oMod_int h0, oFd_int (i := r) (j := s) ⟨h0, by omega⟩, appR_N ha]
    rw [List.map_cons, forL_step (e1 := ⟨[C, S, .own (row.map D.int), .val .N (.int r), .val .N (.int s), s5, s6, s7], []⟩) (by simp) e2, e]
    simp [bigD, restD]
theorem seedD_bd (s k : Int) : 0 ≤ seedD s k ∧ seedD s k < 2147483647 := by unfold seedD; omega
theorem dg_loop2 (C s3 s4 : Sl) {t : Tg} {ss : List Int} (h : SizesOk ss) : ∀ (m a : Nat) (seed : Int) (row : List Int) (s6 s7 : Sl), a + m = ss.length → 0 ≤ seed → seed < 4294967296 → row.length + m ≤ lim →
    ∃ s5' s6' s7', forL B_law_digits_2 (setV 6) ((List.range' a m).map fun (k : Nat) => (Tg.N, D.int (0 + (k : Int)))) ⟨[C, .val t (.lst (ss.map D.int)), .own (row.map D.int), s3, s4, .val .N (.int seed), s6, s7], []⟩ =
      some (.nx ⟨[C, .val t (.lst (ss.map D.int)), .own ((row ++ smallD seed a (ss.drop a)).map D.int), s3, s4, s5', s6', s7'], []⟩)
  | 0, a, seed, row, s6, s7, ha, _, _, _ => ⟨.val .N (.int seed), s6, s7, by
      rw [List.drop_eq_nil_of_le (by omega)]
      simp [smallD]⟩
  | m + 1, a, seed, row, s6, s7, ha, h0, h1, hl => by
    have hlt : a < ss.length := by omega
    obtain ⟨p0, p1⟩ := h.1 ss[a] (List.getElem_mem _)
    obtain ⟨q0, q1⟩ := seedD_bd seed a
    obtain ⟨s5', s6', s7', e⟩ := dg_loop2 C s3 s4 (t := t) h m (a + 1) (seedD seed a) (row ++ [twiceD (seedD seed a) / 19 % ss[a]]) (.val .N (.int (a : Int))) (.val .N (.int (twiceD (seedD seed a)))) (by omega) q0 (by omega) (by simp; omega)
    refine ⟨s5', s6', s7', ?_⟩
    have hal : (row.map D.int).length ≤ lim := by simp; omega
    have hlen : ss.length ≤ 10000 := h.2
    have b1 : bitsOk seed 48271 = true := bits_sm (by omega) (by omega) (by decide) (by decide)
    have b2 : bitsOk 974711 (a : Int) = true := bits_sm (by decide) (by decide) (by omega) (by omega)
    have b3 : bitsOk (seedD seed a) (seedD seed a / 65537 + 3) = true := bits_sm (by omega) (by omega) (by omega) (by omega)
    have hix : atI (ss.map D.int) (a : Int) = some (.int ss[a]) := atI_map hlt
    have d1 : (seed * 48271 + 974711 * (a : Int) + 12345) % 2147483647 = seedD seed a := rfl
    have d2 : seedD seed a * (seedD seed a / 65537 + 3) % 2147483629 = twiceD (seedD seed a) := rfl
    have e2 : B_law_digits_2 ⟨[C, .val t (.lst (ss.map D.int)), .own (row.map D.int), s3, s4, .val .N (.int seed), .val .N (.int (a : Int)), s7], []⟩ =
        some (.nx ⟨[C, .val t (.lst (ss.map D.int)), .own ((row ++ [twiceD (seedD seed a) / 19 % ss[a]]).map D.int), s3, s4, .val .N (.int (seedD seed a)), .val .N (.int (a : Int)), .val .N (.int (twiceD (seedD seed a)))], []⟩) := by
      unfold B_law_digits_2
      rw [sSeq_nx (e2 := ⟨[C, .val t (.lst (ss.map D.int)), .own (row.map D.int), s3, s4, .val .N (.int (seedD seed a)), .val .N (.int (a : Int)), s7], []⟩) (by simp [oMul_int b1, oMul_int b2, oMod_int, d1])]
      rw [sSeq_nx (e2 := ⟨[C, .val t (.lst (ss.map D.int)), .own (row.map D.int), s3, s4, .val .N (.int (seedD seed a)), .val .N (.int (a : Int)), .val .N (.int (twiceD (seedD seed a)))], []⟩) (by simp [oFd_int, oMul_int b3, oMod_int, d2])]
      simp [oFd_int, oIx_lst hix, oMod_int p0, appR_N hal]
    rw [List.range'_succ, List.map_cons, forL_step (e1 := ⟨[C, .val t (.lst (ss.map D.int)), .own (row.map D.int), s3, s4, .val .N (.int seed), .val .N (.int (a : Int)), s7], []⟩) (by simp) e2, e]
    rw [List.drop_eq_getElem_cons hlt]
    simp [smallD]
theorem sem_law_digits : ∀ rs r, rs.all (fun r => okT r.1) = true → g_law_digits rs = some r → (F_law_digits (env0 N_law_digits.length rs)).bind fin = some r := gN_sem (by
  intro rs d ha h
  unfold h_law_digits at h
  split at h
  · rename_i u c t ds
    obtain ⟨ss, h1, h2⟩ := Option.bind_eq_some_iff.mp h
    obtain ⟨hs, h3⟩ := cif_some h2
    cases h3
    have e := intsOf_some h1
    subst e
    simp only [List.all_cons, Bool.and_eq_true] at ha
    have hit : itemsOf (t, .lst (ss.map D.int)) = some (ss.map fun n => (Tg.N, D.int n)) := by
      cases t <;> first | exact Bool.noConfusion ha.2.1 | (simp [List.map_map, Function.comp_def])
    have hlen := hs.2
    have hp : oPow (Tg.N, D.int 10) (Tg.N, D.int 18) = some (.N, .int 1000000000000000000) := oPow_int ⟨by decide, by decide, by decide⟩
    unfold F_law_digits
    rw [sSeq_nx (e2 := ⟨[.val u (.int c), .val t (.lst (ss.map D.int)), .own ([].map D.int), .un, .un, .un, .un, .un], []⟩) (by simp [lim])]
    rw [sSeq_nx (e2 := ⟨[.val u (.int c), .val t (.lst (ss.map D.int)), .own ([].map D.int), .val .N (.int c), .un, .un, .un, .un], []⟩) (by simp)]
    by_cases hc : c ≥ 1000000000000000000
    · obtain ⟨s4', e⟩ := dg_loop1 (.val u (.int c)) (.val t (.lst (ss.map D.int))) .un .un .un ss (c - 1000000000000000000) [] .un hs.1 (by simp [lim]; omega)
      rw [sSeq_rt (r := (.O, .lst ((digitsM c ss).map D.int)))]
      · rfl
      · rw [sIf_t (by simp [hp]; exact hc)]
        rw [sSeq_nx (e2 := ⟨[.val u (.int c), .val t (.lst (ss.map D.int)), .own ([].map D.int), .val .N (.int (c - 1000000000000000000)), .un, .un, .un, .un], []⟩) (by simp [hp])]
        rw [sSeq_nx ((sFor_at (fi := sIt (sVar 1)) (items := ss.map fun n => (Tg.N, D.int n)) (by simp [hit])).trans e)]
        have : digitsM c ss = bigD (c - 1000000000000000000) ss := if_pos hc
        rw [this]
        simp
    · have hm0 : 0 ≤ c % 2147483629 := by omega
      have hm1 : c % 2147483629 < 4294967296 := by omega
      obtain ⟨s5', s6', s7', e⟩ := dg_loop2 (.val u (.int c)) (.val .N (.int c)) .un (t := t) hs ss.length 0 (c % 2147483629) [] .un .un (by omega) hm0 hm1 (by simp [lim]; omega)
      rw [sSeq_nx (A := sIf _ _ _) (e2 := ⟨[.val u (.int c), .val t (.lst (ss.map D.int)), .own ([].map D.int), .val .N (.int c), .un, .un, .un, .un], []⟩) (by rw [sIf_f (by simp [hp]; omega)]; rfl)]
      rw [sSeq_nx (e2 := ⟨[.val u (.int c), .val t (.lst (ss.map D.int)), .own ([].map D.int), .val .N (.int c), .un, .val .N (.int (c % 2147483629)), .un, .un], []⟩) (by simp [oMod_int])]
      have hr : r1K (Tg.N, D.int (ss.length : Int)) = some (iRng ss.length 0) := by
        rw [r1K_int (by omega)]
        rfl
      rw [sSeq_nx ((sFor_at (fi := sR1 _) (items := iRng ss.length 0) (by simp [hr])).trans (by unfold iRng; rw [List.range_eq_range']; exact e))]
      have : digitsM c ss = smallD (c % 2147483629) 0 ss := if_neg hc
      rw [this]
      simp
  · cases h)
end Lw
namespace Vf
open PySem L2
/-! equal data -/
theorem eqD_same {d : D} (h : pyOk d = true) (hc : (py d).canLay0 = true) (hd : (py d).depth ≤ 64) : eqD d d = some true := by
  have hs : SeqAt.shaped (py d) = true := Bool.and_eq_true_iff.mpr ⟨hc, decide_eq_true hd⟩
  have he : PyData.eqv (py d) (py d) = true := SeqAt.eqv_refl _ hc
  have g : (if pyOk d && pyOk d && SeqAt.shaped (py d) && SeqAt.shaped (py d) then some (PyData.eqv (py d) (py d)) else none) = some true := by
    rw [if_pos (by rw [h, hs]; rfl), he]
  cases d with
  | int i => simp
  | str x => simp
  | bl b => simp
  | non => rfl
  | lst xs => exact g
  | scr xs => exact g
  | tup xs => exact g
  | ins _ _ _ => exact g
  | dic _ _ => exact g
/-! slices, whiles, comprehensions -/
@[simp] theorem lcL_nil {ct : FT} {fe : FE} {s : TD → Ev → Option Ev} {env : Ev} : lcL ct fe s env [] = some [] := rfl
end Vf
namespace Vf
open PySem L2
/-! all(list of bools), methods of texts -/
def boolsOf : List D → Option (List Bool)
  | [] => some []
  | .bl i :: r => (boolsOf r).map (i :: ·)
  | _ :: _ => none
theorem boolsOf_map : ∀ ns : List Bool, boolsOf (ns.map D.bl) = some ns
  | [] => rfl
  | n :: ns => by
    rw [List.map_cons]
    show (boolsOf (ns.map D.bl)).map (n :: ·) = _
    rw [boolsOf_map ns]
    rfl
theorem boolsOf_some : ∀ {ds : List D} {ns : List Bool}, boolsOf ds = some ns → ds = ns.map D.bl
  | [], ns, h => by cases h; rfl
  | d :: r, ns, h => by
    cases d with
    | bl i =>
      obtain ⟨ms, h1, rfl⟩ := Option.map_eq_some_iff.mp h
      rw [List.map_cons, boolsOf_some h1]
    | _ => cases h
def strsOf : List D → Option (List Str)
  | [] => some []
  | .str i :: r => (strsOf r).map (i :: ·)
  | _ :: _ => none
theorem rp_bls {Z : Zc} {H : Hp} : ∀ {bs : List Bool} {vs : List V}, RpL Z H vs (bs.map D.bl) → vs = bs.map V.bl
  | [], _, h => by cases h; rfl
  | b :: bs, _, h => by
    rw [List.map_cons] at h
    cases h with
    | cons h r =>
      cases h
      rw [rp_bls r]
      rfl
def allB (rs : List TD) : Option TD := match rs with
  | [a] => match a.2 with
    | .lst ds => (boolsOf ds).map fun bs => (.N, .bl (bs.all id))
    | _ => none
  | _ => none
@[simp] def sM1 (o : TD → TD → Option TD) (f g : FE) : FE := fun env => (f env).bind fun a => (g env).bind fun b => o a b
@[simp] def sM0 (o : TD → Option TD) (f : FE) : FE := fun env => (f env).bind fun a => o a
section
variable {X : Cx} {cl : Str → Option Addr} {a b c o e : Expr} {es : List Expr} {f g h : FE} {fa : FA} {ct dt : FT} {apos pos : Pos}
theorem cr_allB (hX : XS X) : CallR X (.builtin "all") (rC (zx X cl) allB) := by
  rintro pins s σ H xs us Q I r ⟨w, rs, z, eH, hw, hr, ho, q⟩
  unfold allB at ho
  split at ho
  · rename_i a
    obtain ⟨t, d⟩ := a
    obtain ⟨v, rfl, hv⟩ := rvs1 hr
    dsimp only at ho
    subst eH
    split at ho
    · rename_i ds
      obtain ⟨bs, h1, rfl⟩ := Option.map_eq_some_iff.mp ho
      have e := boolsOf_some h1
      subst e
      obtain ⟨p, vs, rfl, h3, h4⟩ := hv.lst hw
      rw [rp_bls h4] at h3
      exact cr_all hX.calm pins s σ _ _ us Q I r ⟨p, bs, rfl, SqL.of h3, q _ w (Gr.refl hw) (nN (.bl _) rfl)⟩
    · cases ho
  · cases ho
end
@[simp] theorem allB_at {t : Tg} {bs : List Bool} : allB [(t, .lst (bs.map D.bl))] = some (.N, .bl (bs.all id)) := by
  show (boolsOf (bs.map D.bl)).map _ = _
  rw [boolsOf_map]; rfl
end Vf
namespace Vf
open PySem L2
/-! defs that hand a new list back -/
@[simp] def sRetL (fl : FL) : FS := fun env => (fl env).bind fun r => if r.1 = .N then some (.rt (.O, .lst r.2)) else none
@[simp] def sCallL (g : List TD → Option (List D)) (fa : FA) : FL := fun env => (fa env).bind fun rs => (g (rs.map dn)).map fun ds => (.N, ds)
def spO (Z : Zc) (g : List TD → Option (List D)) : Sp := fun vs H Q _ => ∃ N rs ds, Same N H ∧ RVs Z ⟨N, H, H, []⟩ rs vs ∧ rs.all (fun r => okT r.1) = true ∧ g rs = some ds ∧
  ∀ p xs w', Gr ⟨N, H, H, []⟩ w' → H p = none → w'.H p = some (.lst xs) → w'.B p = none → RpL Z w'.N xs ds → Q (.ref p) w'.H
def finO (o : Out) : Option (List D) := match o with
  | .rt (.O, .lst ds) => some ds
  | _ => none
@[simp] theorem finO_rt {ds : List D} : finO (.rt (.O, .lst ds)) = some ds := rfl
structure CaO (P : Program) (w : World) (K : PySem.W.Frag) (mg : Str → Option Value) (base : Heap) (cl : Str → Option Addr) (k : Nat) (x : Str) (ps : List Str) (g : List TD → Option (List D)) : Prop where
  ex : ∃ f fd, FnOk P w K mg base CX0 k f fd ps (spO ⟨K, cl⟩ g) ∧ mg x = some (.ref f) ∧ PySem.W.keepIn K (.ref f) = true ∧ Binds K fd ps []
theorem CaO.mono {P : Program} {w : World} {K : PySem.W.Frag} {mg : Str → Option Value} {base : Heap} {cl : Str → Option Addr} {j k : Nat} {x : Str} {ps : List Str} {g : List TD → Option (List D)} (C : CaO P w K mg base cl j x ps g) (h : j ≤ k) : CaO P w K mg base cl k x ps g := by
  obtain ⟨f, fd, F, r⟩ := C.ex
  exact ⟨⟨f, fd, F.mono h, r⟩⟩
/-! a def's worth, as its own body says -/
def gF (np n : Nat) (F : FS) (rs : List TD) : Option TD := if rs.length = np ∧ rs.all (fun r => okT r.1) = true then (F (env0 n rs)).bind fin else none
theorem gF_at {np n : Nat} {F : FS} {rs : List TD} (h : rs.length = np) (h2 : rs.all (fun r => okT r.1) = true) : gF np n F rs = (F (env0 n rs)).bind fin := if_pos ⟨h, h2⟩
theorem fin_ok {o : Out} {r : TD} (h : fin o = some r) : okT r.1 = true := by
  unfold fin at h
  split at h <;> cases h <;> rfl
theorem gF_ok {np n : Nat} {F : FS} (rs : List TD) (r : TD) (h : gF np n F rs = some r) : okT r.1 = true := by
  unfold gF at h
  split at h
  · obtain ⟨o, _, h2⟩ := Option.bind_eq_some_iff.mp h
    exact fin_ok h2
  · cases h
theorem gF_len {np n : Nat} {F : FS} (rs : List TD) (r : TD) (h : gF np n F rs = some r) : rs.length = np := by
  unfold gF at h
  split at h
  · rename_i hh
    exact hh.1
  · cases h
theorem gF_sem {np n : Nat} {F : FS} (rs : List TD) (r : TD) (_ : rs.all (fun r => okT r.1) = true) (h : gF np n F rs = some r) : (F (env0 n rs)).bind fin = some r := by
  unfold gF at h
  split at h
  · exact h
  · cases h
end Vf
namespace Vf
open PySem L2
/-! texts -/
@[simp] theorem sign_len (c : Nat) : Str.length ⟨#[c]⟩ = 1 := rfl
@[simp] theorem iRng_len (n : Nat) (lo : Int) : (iRng n lo).length = n := by unfold iRng; simp
end Vf
namespace Vf
open PySem L2
/-! str(number), ord(sign), methods of texts, attributes of an instance that stands -/
@[simp] def sM1L (o : TD → TD → Option (Tg × List D)) (f g : FE) : FL := fun env => (f env).bind fun a => (g env).bind fun b => o a b
section
variable {X : Cx} {cl : Str → Option Addr} {a b c o e : Expr} {es : List Expr} {f g h : FE} {fa : FA} {ct dt : FT} {apos pos : Pos}
theorem RV.ins {Z : Zc} {w : Wd} (hw : Wf w) : ∀ {t : Tg} {c : Str} {fs : List Str} {ds : List D} {v : V}, RV Z w (t, .ins c fs ds) v → ∃ p C dx vs, v = .ref p ∧ w.H p = some (.ins C dx (fs.zip vs)) ∧ Z.cl c = some C ∧ vs.length = fs.length ∧ RpL Z (w.rd (el t)) vs ds
  | .N, _, _, _, _, h => by cases h with | ins h c l r => exact ⟨_, _, _, _, rfl, hw.nh _ _ h, c, l, r⟩
  | .B, _, _, _, _, h => by cases h with | ins h c l r => exact ⟨_, _, _, _, rfl, hw.bh _ _ h, c, l, r⟩
  | .T, _, _, _, _, h => by cases h with | ins h c l r => exact ⟨_, _, _, _, rfl, h, c, l, r⟩
  | .O, _, _, _, _, ⟨p, vs, ds, e, e2, h, b, r⟩ => nomatch e2
end
end Vf
namespace Vf
open PySem L2
/-! objects that may change: the table, handles -/
abbrev FH := Ev → Option HV
def tH (Z : Zc) (f : FH) : TE := fun σ H Q => ∃ env w x, w.H = H ∧ Wok Z env σ w ∧ f env = some x ∧ ∀ v w', Gr w w' → HvOk Z w' v x → Q v w'.H
theorem HvsOk.length {Z : Zc} {w : Wd} : ∀ {vs : List V} {xs : List HV}, HvsOk Z w vs xs → vs.length = xs.length
  | [], [], _ => rfl
  | _ :: _, _ :: _, ⟨_, r⟩ => congrArg Nat.succ r.length
  | [], _ :: _, h => h.elim
  | _ :: _, [], h => h.elim
theorem HvsOk.get {Z : Zc} {w : Wd} : ∀ {vs : List V} {xs : List HV} {i : Nat} {x : HV}, HvsOk Z w vs xs → xs[i]? = some x → ∃ v, vs[i]? = some v ∧ HvOk Z w v x
  | [], [], _, _, _, e => by simp at e
  | _ :: _, _ :: _, 0, _, ⟨h, _⟩, e => by simp at e; subst e; exact ⟨_, rfl, h⟩
  | _ :: _, _ :: _, i + 1, _, ⟨_, r⟩, e => by simpa using r.get (i := i) (by simpa using e)
  | [], _ :: _, _, _, h, _ => h.elim
  | _ :: _, [], _, _, h, _ => h.elim
theorem HvsOk.app {Z : Zc} {w : Wd} : ∀ {vs us : List V} {xs ys : List HV}, HvsOk Z w vs xs → HvsOk Z w us ys → HvsOk Z w (vs ++ us) (xs ++ ys)
  | [], _, [], _, _, h => h
  | _ :: _, _, _ :: _, _, ⟨h, r⟩, q => ⟨h, r.app q⟩
  | [], _, _ :: _, _, h, _ => h.elim
  | _ :: _, _, [], _, h, _ => h.elim
theorem HvsOk.set {Z : Zc} {w : Wd} : ∀ {vs : List V} {xs : List HV} {v : V} {x : HV} (i : Nat), HvsOk Z w vs xs → HvOk Z w v x → HvsOk Z w (vs.set i v) (xs.set i x)
  | [], [], _, _, _, h, _ => h
  | _ :: _, _ :: _, _, _, 0, ⟨_, r⟩, q => ⟨q, r⟩
  | _ :: _, _ :: _, _, _, i + 1, ⟨h, r⟩, q => ⟨h, r.set i q⟩
  | [], _ :: _, _, _, _, h, _ => h.elim
  | _ :: _, [], _, _, _, h, _ => h.elim
theorem hvs_pu {Z : Zc} {w : Wd} : ∀ {vs : List V} {ds : List D}, RpL Z w.N vs ds → HvsOk Z w vs (ds.map .pu)
  | _, _, .nil => trivial
  | _, _, .cons h r => ⟨h, hvs_pu r⟩
/-- an object of the table changes -/
theorem Wok.tset {Z : Zc} {env : Ev} {σ : L2.St} {w : Wd} (k : Wok Z env σ w) {n : Nat} {M0 M : Mob} {a : Addr} {o : HO} (he : env.t[n]? = some (some M0)) (hm : w.m[n]? = some a) (hb : w.B a = none) (hM : MobOk Z ⟨w.N, w.B, upd w.H a o, w.m⟩ a M) :
    Wok Z ⟨env.s, env.t.set n (some M)⟩ σ ⟨w.N, w.B, upd w.H a o, w.m⟩ ∧ Gs w ⟨w.N, w.B, upd w.H a o, w.m⟩ := by
  have wf : Wf ⟨w.N, w.B, upd w.H a o, w.m⟩ := ⟨k.wf.nb, same_up1 k.wf.bh hb⟩
  have hn : n < env.t.length := (List.getElem?_eq_some_iff.mp he).1
  have ha := List.mem_of_getElem? hm
  refine ⟨⟨wf, k.len, fun i s e => ?_, k.dj, ?_⟩, ⟨wf, .refl _, .refl _, fun x q => .inl q, List.prefix_refl _, fun _ q => .inl q⟩⟩
  · obtain ⟨o', h1, h2⟩ := k.sl i s e
    refine ⟨o', h1, ?_⟩
    cases s with
    | un => exact trivial
    | val t d => exact h2
    | han j => exact h2
    | own ds =>
      obtain ⟨p, vs, e', h3, h4, h5, h6⟩ := h2
      have : p ≠ a := fun q => h5 (by rw [q]; exact ha)
      exact ⟨p, vs, e', by show upd w.H a o p = _; rw [upd_ne this]; exact h3, h4, h5, h6⟩
  · refine ⟨by rw [List.length_set]; exact k.tb.len, k.tb.nd, fun b hb' => ?_, fun j M' e => ?_⟩
    · show upd w.H a o b ≠ none
      by_cases q : b = a
      · subst q
        rw [upd_same]
        exact fun z => nomatch z
      · rw [upd_ne q]
        exact k.tb.hh b hb'
    · by_cases hj : n = j
      · subst hj
        rw [List.getElem?_set_self hn] at e
        cases e
        exact ⟨a, hm, hb, hM⟩
      · rw [List.getElem?_set_ne hj] at e
        obtain ⟨b, h1, h2, h3⟩ := k.tb.at_ j M' e
        have hne : b ≠ a := fun q => by
          subst q
          exact hj ((List.getElem?_inj (List.getElem?_eq_some_iff.mp hm).1 k.tb.nd).mp (hm.trans h1.symm))
        exact ⟨b, h1, h2, MobOk.mono (w := w) (w' := ⟨w.N, w.B, upd w.H a o, w.m⟩) (.refl _) (List.prefix_refl _) (fun o' q => by show upd w.H a o b = _; rw [upd_ne hne]; exact q) h3⟩
/-- an object of the table more -/
theorem Wok.tnew {Z : Zc} {env : Ev} {σ : L2.St} {w w' : Wd} (k : Wok Z env σ w) (g : Gr w w') {p : Addr} {o : HO} {M : Mob} (hp : w.H p = none) (h : w'.H p = some o) (hb : w'.B p = none) (hM : MobOk Z w' p M) :
    Wok Z ⟨env.s, env.t ++ [some M]⟩ σ ⟨w'.N, w'.B, w'.H, w'.m ++ [p]⟩ ∧ Gs w ⟨w'.N, w'.B, w'.H, w'.m ++ [p]⟩ := by
  have k' := k.mono g
  have hpm : p ∉ w.m := fun q => k.tb.hh p q hp
  have hpm' : p ∉ w'.m := by rw [g.m]; exact hpm
  have wf : Wf ⟨w'.N, w'.B, w'.H, w'.m ++ [p]⟩ := ⟨g.wf.nb, g.wf.bh⟩
  have px : w'.m <+: w'.m ++ [p] := List.prefix_append _ _
  refine ⟨⟨wf, k'.len, fun i s e => ?_, k'.dj, ?_⟩, ⟨wf, g.n, g.b, fun x q => (g.fn x q).imp id fun z => k.wf.bh.free z, by show w.m <+: w'.m ++ [p]; rw [g.m]; exact List.prefix_append _ _, fun x q => (List.mem_append.mp q).elim (fun z => .inl (by rw [← g.m]; exact z)) fun z => .inr (by rw [List.mem_singleton.mp z]; exact k.wf.bh.free hp)⟩⟩
  · obtain ⟨o', h1, h2⟩ := k'.sl i s e
    refine ⟨o', h1, ?_⟩
    cases s with
    | un => exact trivial
    | val t d => exact h2
    | han j =>
      obtain ⟨a, e1, e2⟩ := h2
      exact ⟨a, e1, by show (w'.m ++ [p])[j]? = _; rw [List.getElem?_append_left (List.getElem?_eq_some_iff.mp e2).1]; exact e2⟩
    | own ds =>
      obtain ⟨q, vs, e', h3, h4, h5, h6⟩ := h2
      refine ⟨q, vs, e', h3, h4, ?_, h6⟩
      show q ∉ w'.m ++ [p]
      intro z
      rcases List.mem_append.mp z with z | z
      · exact h5 z
      · have := List.mem_singleton.mp z
        subst this
        obtain ⟨o2, i1, i2⟩ := k.sl i _ e
        obtain ⟨q2, vs2, e2, i3, _⟩ := i2
        rw [h1] at i1
        cases i1
        rw [e'] at e2
        cases e2
        rw [hp] at i3
        cases i3
  · refine ⟨by show (env.t ++ [some M]).length = (w'.m ++ [p]).length; rw [List.length_append, List.length_append, k'.tb.len]; rfl, ?_, fun b hb' => ?_, fun j M' e => ?_⟩
    · show (w'.m ++ [p]).Nodup
      rw [List.nodup_append]
      exact ⟨k'.tb.nd, by simp, fun x hx y hy e => by rw [List.mem_singleton.mp hy] at e; subst e; exact hpm' hx⟩
    · show w'.H b ≠ none
      rcases List.mem_append.mp hb' with z | z
      · exact k'.tb.hh b z
      · rw [List.mem_singleton.mp z, h]
        exact fun z => nomatch z
    · have e : (env.t ++ [some M])[j]? = some (some M') := e
      by_cases hj : j < env.t.length
      · rw [List.getElem?_append_left hj] at e
        obtain ⟨a, h1, h2, h3⟩ := k'.tb.at_ j M' e
        exact ⟨a, by show (w'.m ++ [p])[j]? = _; rw [List.getElem?_append_left (List.getElem?_eq_some_iff.mp h1).1]; exact h1, h2, MobOk.mono (w := w') (w' := ⟨w'.N, w'.B, w'.H, w'.m ++ [p]⟩) (.refl _) px (fun _ q => q) h3⟩
      · rw [List.getElem?_append_right (by omega)] at e
        have h0 : j - env.t.length = 0 := by
          have := (List.getElem?_eq_some_iff.mp e).1
          simp at this
          omega
        rw [h0] at e
        cases e
        have hlen := k'.tb.len
        exact ⟨p, by show (w'.m ++ [p])[j]? = _; rw [List.getElem?_append_right (by omega), ← hlen, h0]; rfl, hb, MobOk.mono (w := w') (w' := ⟨w'.N, w'.B, w'.H, w'.m ++ [p]⟩) (.refl _) px (fun _ q => q) hM⟩
theorem Wok.setS {Z : Zc} {env : Ev} {σ : L2.St} {w : Wd} (k : Wok Z env σ w) {i : Nat} (hi : i < env.s.length) {x : Sl} {v : V} (hx : ∀ ds, x ≠ .own ds) (h : SlOk Z w (some v) x) : Wok Z (env.put i x) (σ.set i (some v)) w := by
  refine ⟨k.wf, by simpa using k.len, fun j s e => ?_, fun j j' ds es p hne e1 e2 e3 => ?_, k.tb⟩
  · by_cases hj : i = j
    · subst hj
      rw [List.getElem?_set_self hi] at e
      cases e
      exact ⟨some v, List.getElem?_set_self (by rw [k.len]; exact hi), h⟩
    · rw [List.getElem?_set_ne hj] at e
      obtain ⟨o, h1, h2⟩ := k.sl j s e
      exact ⟨o, by rw [List.getElem?_set_ne hj]; exact h1, h2⟩
  · have n1 : i ≠ j := fun q => by
      subst q
      rw [List.getElem?_set_self hi] at e1
      exact hx _ (Option.some.inj e1)
    have n2 : i ≠ j' := fun q => by
      subst q
      rw [List.getElem?_set_self hi] at e2
      exact hx _ (Option.some.inj e2)
    rw [List.getElem?_set_ne n1] at e1 e3
    rw [List.getElem?_set_ne n2] at e2 ⊢
    exact k.dj j j' ds es p hne e1 e2 e3
/-! readings of paths -/
def hVar (i : Nat) : FH := fun env => match env.s[i]? with
  | some (.han n) => some (.ob n)
  | some (.val .N d) => some (.pu d)
  | _ => none
@[simp] def hPu (f : FE) : FH := fun env => (f env).bind fun r => if r.1 = .N then some (.pu r.2) else none
def puD : HV → Option TD
  | .pu d => some (.N, d)
  | .ob _ => none
@[simp] def sOfH (h : FH) : FE := fun env => (h env).bind puD
def obIns (cs : List Str) (n : Str) (T : Tb) : HV → Option HV
  | .ob k => match T[k]? with
    | some (some (.ins c fs xs)) => if c ∈ cs then (fs.zip xs).lookup n else none
    | _ => none
  | .pu _ => none
@[simp] def hFld (cs : List Str) (n : Str) (h : FH) : FH := fun env => (h env).bind (obIns cs n env.t)
def obLst (T : Tb) : HV → Option (Nat × List HV)
  | .ob k => match T[k]? with
    | some (some (.lst xs)) => some (k, xs)
    | _ => none
  | .pu _ => none
def ixH (xs : List HV) (r : TD) : Option HV := match r.2 with | .int i => atI xs i | _ => none
@[simp] def hIx (h : FH) (g : FE) : FH := fun env => (h env).bind fun a => (obLst env.t a).bind fun q => (g env).bind (ixH q.2)
@[simp] def sLenH (h : FH) : FE := fun env => (h env).bind fun a => (obLst env.t a).map fun q => (.N, .int q.2.length)
def appH (env : Ev) (k : Nat) (xs : List HV) (x : HV) : Option Out := if xs.length ≤ lim then some (.nx ⟨env.s, env.t.set k (some (.lst (xs ++ [x])))⟩) else none
@[simp] def sAppH (h g : FH) : FS := fun env => (h env).bind fun a => (obLst env.t a).bind fun q => (g env).bind fun x => appH env q.1 q.2 x
def setHS (i : Nat) (x : HV) (env : Ev) : Option Ev := if i < env.s.length then some (match x with | .ob n => env.put i (.han n) | .pu d => env.put i (.val .N d)) else none
@[simp] def sSetH (i : Nat) (h : FH) : FS := fun env => (h env).bind fun x => (setHS i x env).map .nx
def newH (i : Nat) (env : Ev) (r : Tg × List D) : Option Out := if i < env.s.length then (match r.1 with
  | .N => some (.nx ⟨env.s.set i (.han env.t.length), env.t ++ [some (.lst (r.2.map .pu))]⟩)
  | _ => none) else none
@[simp] def sNewH (i : Nat) (f : FL) : FS := fun env => (f env).bind (newH i env)
theorem obLst_some {T : Tb} {x : HV} {k : Nat} {xs : List HV} (h : obLst T x = some (k, xs)) : x = .ob k ∧ T[k]? = some (some (.lst xs)) := by
  unfold obLst at h
  split at h
  · split at h
    · rename_i n _ ys e
      cases h
      exact ⟨rfl, e⟩
    · cases h
  · cases h
theorem ob_lst {Z : Zc} {T : Tb} {w : Wd} (t : TbOk Z T w) {k : Nat} {xs : List HV} {v : V} (hv : HvOk Z w v (.ob k)) (e : T[k]? = some (some (.lst xs))) : ∃ a vs, v = .ref a ∧ w.m[k]? = some a ∧ w.B a = none ∧ w.H a = some (.lst vs) ∧ HvsOk Z w vs xs := by
  obtain ⟨a, rfl, h1⟩ := hv
  obtain ⟨a', h2, h3, vs, h4, h5⟩ := t.at_ k _ e
  rw [h1] at h2
  cases h2
  exact ⟨a, vs, rfl, h1, h3, h4, h5⟩
section
variable {X : Cx} {cl : Str → Option Addr} {a b c e : Expr} {es : List Expr} {f g : FE} {h hh : FH} {fa : FA} {fl : FL} {ct : FT} {A B : FS} {pos : Pos} {st : Stmt} {rest body orelse : List Stmt}
theorem jh_var (i : Nat) {x : Str} {pos : Pos} (hN : X.N[i]? = some x := by rfl) (hv : Vis X.env.scope x := by first | exact Or.inl rfl | exact Or.inr (Or.inl rfl) | exact Or.inr (Or.inr rfl))
    (hd : (x == ("__debug__" : Str)) = false := by decide) (hcd : (x == ("__classdict__" : Str)) = false := by decide) : PE X (.Name x pos) (tH (zx X cl) (hVar i)) := by
  refine pe_w (pe_var (i := i) hN hv hd hcd) fun σ H Q ⟨env, w, r, e, k, hr, q⟩ => ?_
  subst e
  unfold hVar at hr
  split at hr
  · rename_i n he
    cases hr
    obtain ⟨o, ho, a, rfl, h1⟩ := k.sl i _ he
    exact ⟨_, ho, q _ w (Gr.refl k.wf) ⟨a, rfl, h1⟩⟩
  · rename_i d he
    cases hr
    obtain ⟨o, ho, v, rfl, hv⟩ := k.sl i _ he
    refine ⟨_, ho, q _ w (Gr.refl k.wf) ?_⟩
    rcases hv with ⟨_, hv⟩ | ⟨z, _⟩
    · exact hv
    · cases z
  · cases hr
theorem atI_hv {Z : Zc} {w : Wd} {vs : List V} {xs : List HV} {i : Int} {x : HV} (r : HvsOk Z w vs xs) (h : atI xs i = some x) : ∃ v, atI vs i = some v ∧ HvOk Z w v x := by
  unfold atI at h ⊢
  rw [r.length]
  obtain ⟨j, h1, h2⟩ := Option.bind_eq_some_iff.mp h
  obtain ⟨v, h3, h4⟩ := r.get h2
  exact ⟨v, by rw [h1]; exact h3, h4⟩
end
end Vf
namespace Vf
open PySem L2
/-! defs that see the table -/
abbrev FAH := Ev → Option (List HV)
@[simp] def hNil : FAH := fun _ => some []
@[simp] def hCons (f : FH) (g : FAH) : FAH := fun env => (f env).bind fun x => (g env).map fun xs => x :: xs
def slH : HV → Sl | .pu d => .val .N d | .ob n => .han n
def env0H (n : Nat) (xs : List HV) (T : Tb) : Ev := ⟨xs.map slH ++ List.replicate (n - xs.length) .un, T⟩
@[simp] def sRetH (h : FH) : FS := fun env => (h env).map fun x => .rth x env.t
theorem wok_startH {Z : Zc} {w : Wd} {T : Tb} (hw : Wf w) (ht : TbOk Z T w) {names : List Str} {xs : List HV} {vs : List V} (h : HvsOk Z w vs xs) (hl : xs.length ≤ names.length) : Wok Z (env0H names.length xs T) (L2.start names vs) w := by
  have hvl := h.length
  refine ⟨hw, ?_, fun i s e => ?_, fun i j ds es p hne e1 e2 e3 => ?_, ht⟩
  · unfold L2.start env0H
    simp only [List.length_append, List.length_map, List.length_replicate]
    omega
  · unfold env0H at e
    dsimp only at e
    by_cases hi : i < xs.length
    · rw [List.getElem?_append_left (by rw [List.length_map]; exact hi), List.getElem?_map] at e
      obtain ⟨x, h1, rfl⟩ := Option.map_eq_some_iff.mp e
      obtain ⟨v, h2, h3⟩ := h.get h1
      refine ⟨some v, ?_, ?_⟩
      · unfold L2.start
        rw [List.getElem?_append_left (by rw [List.length_map]; omega), List.getElem?_map, h2]
        rfl
      · cases x with
        | pu d => exact ⟨v, rfl, .inl ⟨rfl, h3⟩⟩
        | ob n =>
          obtain ⟨a, rfl, h4⟩ := h3
          exact ⟨a, rfl, h4⟩
    · rw [List.getElem?_append_right (by rw [List.length_map]; omega)] at e
      have e2 := List.mem_of_getElem? e
      have e3 := List.eq_of_mem_replicate e2
      subst e3
      have hlt : i - (xs.map slH).length < names.length - xs.length := by
        have := (List.getElem?_eq_some_iff.mp e).1
        simpa using this
      rw [List.length_map] at hlt
      refine ⟨none, ?_, trivial⟩
      unfold L2.start
      rw [List.getElem?_append_right (by rw [List.length_map]; omega), List.length_map, List.getElem?_replicate]
      rw [if_pos (by omega)]
  · unfold env0H at e1
    dsimp only at e1
    rcases List.mem_append.mp (List.mem_of_getElem? e1) with z | z
    · obtain ⟨x, _, q⟩ := List.mem_map.mp z
      cases x <;> cases q
    · cases List.eq_of_mem_replicate z
section
variable {X : Cx} {cl : Str → Option Addr} {a b c e : Expr} {es : List Expr} {f g : FE} {h hh : FH} {fa : FAH} {fl : FL} {ct : FT} {A B : FS} {pos : Pos} {gg : List HV → Tb → Option (HV × Tb)} {ps : List Str} {k j : Nat}
@[simp] def sCallSet (i : Nat) (gg : List HV → Tb → Option (HV × Tb)) (fa : FAH) : FS := fun env => (fa env).bind fun xs => (gg xs env.t).bind fun r => (setHS i r.1 ⟨env.s, r.2⟩).map .nx
@[simp] def sCallDo (gg : List HV → Tb → Option (HV × Tb)) (fa : FAH) : FS := fun env => (fa env).bind fun xs => (gg xs env.t).map fun r => .nx ⟨env.s, r.2⟩
@[simp] def sCallRet (gg : List HV → Tb → Option (HV × Tb)) (fa : FAH) : FS := fun env => (fa env).bind fun xs => (gg xs env.t).map fun r => .rth r.1 r.2
theorem setHS_ok {Z : Zc} {i : Nat} {env e' : Ev} {σ : L2.St} {w : Wd} {x : HV} {v : V} (k : Wok Z env σ w) (h : setHS i x env = some e') (hv : HvOk Z w v x) : Wok Z e' (σ.set i (some v)) w := by
  unfold setHS at h
  split at h
  · rename_i hi
    cases h
    cases x with
    | ob n => exact k.setS hi (fun _ z => nomatch z) (by obtain ⟨a, rfl, h3⟩ := hv; exact ⟨a, rfl, h3⟩)
    | pu d => exact k.setS hi (fun _ z => nomatch z) ⟨v, rfl, .inl ⟨rfl, hv⟩⟩
  · cases h
end
end Vf
namespace Vf
open PySem L2
/-! e.f = g; a new instance -/
def putG {α : Type} (n : Str) (x : α) : List Str → List α → List Str × List α
  | [], _ => ([n], [x])
  | f :: fs, [] => (f :: fs, [])
  | f :: fs, y :: ys => if f = n then (f :: fs, x :: ys) else (f :: (putG n x fs ys).1, y :: (putG n x fs ys).2)
def stoK (cs : List Str) (n : Str) (env : Ev) (x : HV) : HV → Option Out
  | .ob k => match env.t[k]? with
    | some (some (.ins c fs xs)) => if c ∈ cs ∧ fs.length < 1000 then some (.nx ⟨env.s, env.t.set k (some (.ins c (putG n x fs xs).1 (putG n x fs xs).2))⟩) else none
    | _ => none
  | .pu _ => none
/-- o.n = e -/
@[simp] def sSto (cs : List Str) (n : Str) (h g : FH) : FS := fun env => (g env).bind fun x => (h env).bind (stoK cs n env x)
/-- C(..): the number of the new object, the table behind __init__ -/
def mkK (c : Str) (gi : List HV → Tb → Option (HV × Tb)) (xs : List HV) (T : Tb) : Option Tb := (gi (.ob T.length :: xs) (T ++ [some (.ins c [] [])])).bind fun r => match r.1 with
  | .pu .non => some r.2
  | _ => none
@[simp] def sMkSet (i : Nat) (c : Str) (gi : List HV → Tb → Option (HV × Tb)) (fa : FAH) : FS := fun env => (fa env).bind fun xs => (mkK c gi xs env.t).bind fun T' => (setHS i (.ob env.t.length) ⟨env.s, T'⟩).map .nx
end Vf
namespace Vf
open PySem L2
/-! methods of the program's classes -/
/-- the class and the variables of an object -/
def insOf (T : Tb) : HV → Option (Str × List Str)
  | .ob k => match T[k]? with
    | some (some (.ins c fs _)) => some (c, fs)
    | _ => none
  | .pu (.ins c fs _) => some (c, fs)
  | .pu _ => none
/-- what o.m(..) is worth -/
def methK (c m : Str) (gg : List HV → Tb → Option (HV × Tb)) (T : Tb) (x : HV) (xs : List HV) : Option (HV × Tb) := (insOf T x).bind fun q => if q.1 = c ∧ m ∉ q.2 then gg (x :: xs) T else none
@[simp] def sMeth (c m : Str) (gg : List HV → Tb → Option (HV × Tb)) (h : FH) (fa : FAH) (out : Ev → HV × Tb → Option Out) : FS := fun env => (h env).bind fun x => (fa env).bind fun xs => (methK c m gg env.t x xs).bind (out env)
end Vf
namespace Vf
open PySem L2
/-! o[i] = e, o a list of the table; its length, its truth -/
def putK (env : Ev) (k : Nat) (xs : List HV) (x : HV) (r : TD) : Option Out := match r.2 with
  | .int i => (ixN xs.length i).map fun j => .nx ⟨env.s, env.t.set k (some (.lst (xs.set j x)))⟩
  | _ => none
/-- o[g] = e -/
@[simp] def sPutH (h : FH) (g : FE) (v : FH) : FS := fun env => (v env).bind fun x => (h env).bind fun a => (obLst env.t a).bind fun q => (g env).bind (putK env q.1 q.2 x)
end Vf
namespace Vf
open PySem L2
/-! an object of the table becomes a tree: nobody changes it any more -/
def pures : List HV → Option (List D)
  | [] => some []
  | .pu d :: r => (pures r).map (d :: ·)
  | .ob _ :: _ => none
def mobD : Mob → Option D
  | .lst xs => (pures xs).map .lst
  | .ins c fs xs => (pures xs).map (.ins c fs)
  | _ => none
theorem pures_rp {Z : Zc} {w : Wd} : ∀ {vs : List V} {xs : List HV} {ds : List D}, HvsOk Z w vs xs → pures xs = some ds → RpL Z w.N vs ds
  | [], [], _, _, e => by cases e; exact .nil
  | v :: vs, .pu d :: xs, _, ⟨h, r⟩, e => by
    obtain ⟨ds, e1, rfl⟩ := Option.map_eq_some_iff.mp e
    exact .cons h (pures_rp r e1)
  | _ :: _, .ob _ :: _, _, _, e => by cases e
  | [], _ :: _, _, h, _ => h.elim
  | _ :: _, [], _, h, _ => h.elim
def frzHK (i : Nat) (env : Ev) : Sl → Option Out
  | .han n => match env.t[n]? with
    | some (some M) => (mobD M).map fun d => .nx ⟨env.s.set i (.val .N d), env.t.set n none⟩
    | _ => none
  | _ => some (.nx env)
@[simp] def sFrzH (i : Nat) : FS := fun env => (env.s[i]?).bind (frzHK i env)
end Vf
namespace Vf
open PySem L2
/-! len and truth of a list of the table -/
def lenHK (T : Tb) (xs : List HV) : Option TD := match xs with
  | [a] => (obLst T a).map fun q => (.N, .int q.2.length)
  | _ => none
@[simp] def sLenOf (h : FH) : FE := fun env => (h env).bind fun a => lenHK env.t [a]
@[simp] def sTruH (h : FH) : FT := fun env => (h env).bind fun a => (obLst env.t a).map fun q => !q.2.isEmpty
end Vf
namespace Vf
open PySem L2
/-! x[i] = e, x an own list -/
section
variable {X : Cx} {cl : Str → Option Addr} {a b e o i : Expr} {es : List Expr} {f g : FE} {h hh : FH} {pos pos' : Pos}
theorem js_put (n : Nat) {x : Str} {px : Pos} (hv : PE X e (tE (zx X cl) f)) (hi : PE X i (tE (zx X cl) g)) (hN : X.N[n]? = some x := by rfl) (hvis : Vis X.env.scope x := by first | exact Or.inl rfl | exact Or.inr (Or.inl rfl) | exact Or.inr (Or.inr rfl))
    (hd : (x == ("__debug__" : Str)) = false := by decide) (hcd : (x == ("__classdict__" : Str)) = false := by decide)
    (ha : ∀ v, assign (.Subscript (.Name x px) i pos') X.env v = (do
      let ov ← holding [v] (eval (.Name x px) X.env)
      let iv ← holding [v, ov] (eval i X.env)
      standAt pos'
      holding [v, ov, iv] (setItem ov iv v)
      release [v, ov, iv] []) := by intro _; rfl)
    (hs : swapsWithSole [.Subscript (.Name x px) i pos'] e pos.line X.env = pure false := by rfl) (hw : swappedStores [.Subscript (.Name x px) i pos'] e X.env = pure none := by rfl)
    (h1 : (assignEach [.Subscript (.Name x px) i pos'] X.env).map (·.2) = [assign (.Subscript (.Name x px) i pos') X.env] := by rfl) : PS X (.Assign [.Subscript (.Name x px) i pos'] e pos) (tS (zx X cl) (sPut n g f)) := by
  refine ps_w (ps_asg hv (pg_sub (pe_var hN hvis hd hcd) hi set_list ha) hs hw h1) fun D σ H ⟨env, w, out, e, k, hr, q⟩ => ?_
  subst e
  obtain ⟨⟨t, d⟩, h1, hr1⟩ := Option.bind_eq_some_iff.mp hr
  dsimp only at hr1
  split at hr1
  · rename_i ds henv
    obtain ⟨⟨t2, d2⟩, h4, hr4⟩ := Option.bind_eq_some_iff.mp hr1
    dsimp only at hr4
    split at hr4
    · rename_i j
      obtain ⟨m, h5, rfl⟩ := Option.map_eq_some_iff.mp hr4
      refine ⟨env, w, _, rfl, k, h1, fun v w1 g1 hx => ?_⟩
      have k1 := k.mono g1
      obtain ⟨o, ho, p, vs, rfl, h6, h7, hpm, h8⟩ := k1.sl n _ henv
      refine ⟨.ref p, ho, env, w1, _, rfl, k1, h4, fun u2 w3 g3 r3 => ?_⟩
      obtain ⟨k2, g2⟩ := (k1.mono g3).mut (us := vs.set m v) (es := ds.set m d) henv ho (g3.h _ _ h6) (own_mono g3 h6 h7) (by rw [g3.m]; exact hpm) (RpL.mono g3.n (h8.set m hx))
      exact ⟨p, vs, j, m, rfl, rv_int g3.wf r3, g3.h _ _ h6, by rw [h8.length]; exact h5, q σ _ (((g1.trans g3).gs k.wf).trans g2) k2⟩
    · cases hr4
  · cases hr1
end
end Vf
namespace Vf
open PySem L2
/-! what holds of a worth that is there -/
def Ok {α : Type} (o : Option α) (Q : α → Prop) : Prop := ∃ x, o = some x ∧ Q x
section
variable {α β : Type} {Q R : α → Prop} {P : β → Prop} {o : Option α} {a : α}
@[simp] theorem Ok_some : Ok (some a) Q ↔ Q a := ⟨fun ⟨x, e, h⟩ => by cases e; exact h, fun h => ⟨a, rfl, h⟩⟩
@[simp] theorem Ok_none : Ok none Q ↔ False := ⟨fun ⟨x, e, h⟩ => (nomatch e), fun h => h.elim⟩
@[simp] theorem Ok_bind {f : α → Option β} : Ok (o.bind f) P ↔ Ok o fun x => Ok (f x) P := by
  cases o <;> simp
@[simp] theorem Ok_map {f : α → β} : Ok (o.map f) P ↔ Ok o fun x => P (f x) := by
  cases o <;> simp
@[simp] theorem Ok_ite {c : Prop} [Decidable c] {p q : Option α} : Ok (if c then p else q) Q ↔ (c → Ok p Q) ∧ (¬ c → Ok q Q) := by
  split <;> simp_all
@[simp] theorem Ok_cif {c : Prop} {p : Option α} : Ok (cif c p none) Q ↔ c ∧ Ok p Q := by
  by_cases h : c
  · rw [cif_pos h]; simp [h]
  · rw [cif_neg h]; simp [h]
theorem Ok.mono (h : Ok o Q) (hq : ∀ x, Q x → R x) : Ok o R := by
  obtain ⟨x, e, q⟩ := h
  exact ⟨x, e, hq x q⟩
theorem Ok.of (e : o = some a) (h : Q a) : Ok o Q := ⟨a, e, h⟩
theorem Ok.eq (h : Ok o fun x => x = a) : o = some a := by
  obtain ⟨x, e, rfl⟩ := h
  exact e
theorem Ok.of_eq (h : o = some a) : Ok o fun x => x = a := ⟨a, h, rfl⟩
end
section
variable {t u : Tg} {i j : Int} {x y z : Str} {b k : Bool} {xs ys ds es : List D} {d : D} {env : Ev} {n : Nat} {f g : FE} {A B : FS} {r : TD} {rs : List TD} {Q : TD → Prop} {Ql : Tg × List D → Prop} {Qo : Out → Prop} {Qi : List TD → Prop}
@[simp] theorem Ok_oMul_int : Ok (oMul (t, .int i) (u, .int j)) Q ↔ bitsOk i j = true ∧ Q (.N, .int (i * j)) := by
  show Ok (cif _ _ none) Q ↔ _
  simp
@[simp] theorem Ok_oMul_lst : Ok (oMul (t, .lst xs) (u, .int i)) Q ↔ (i.natAbs ≤ lim ∧ xs.length * i.toNat ≤ lim) ∧ Q (el t, .lst (List.replicate i.toNat xs).flatten) := by
  show Ok (cif _ _ none) Q ↔ _
  simp
@[simp] theorem Ok_oFd : Ok (oFd (t, .int i) (u, .int j)) Q ↔ (0 < j ∧ j < 18446744073709551616) ∧ Q (.N, .int (i / j)) := by
  show Ok (cif _ _ none) Q ↔ _
  simp
@[simp] theorem Ok_oMod : Ok (oMod (t, .int i) (u, .int j)) Q ↔ 0 < j ∧ Q (.N, .int (i % j)) := by
  show Ok (cif _ _ none) Q ↔ _
  simp
@[simp] theorem Ok_oPow : Ok (oPow (t, .int i) (u, .int j)) Q ↔ (0 ≤ j ∧ j ≤ 1000000 ∧ i.natAbs < 18446744073709551616) ∧ Q (.N, .int (i ^ j.toNat)) := by
  show Ok (cif _ _ none) Q ↔ _
  simp
theorem Ok_of_if {α : Type} {c : Prop} [Decidable c] {p : Option α} {P : α → Prop} : Ok (if c then p else none) P ↔ c ∧ Ok p P := by
  split <;> simp_all
@[simp] theorem Ok_oAdd_str : Ok (oAdd (t, .str x) (u, .str y)) Q ↔ x.length + y.length ≤ lim ∧ Q (.N, .str (x ++ y)) := by
  show Ok (if _ then _ else none) Q ↔ _
  rw [Ok_of_if, Ok_some]
@[simp] theorem Ok_oAdd_lst : Ok (oAdd (t, .lst xs) (u, .lst ys)) Q ↔ xs.length + ys.length ≤ lim ∧ Q (mt2 (el t) (el u), .lst (xs ++ ys)) := by
  show Ok (if _ then _ else none) Q ↔ _
  rw [Ok_of_if, Ok_some]
@[simp] theorem Ok_oAdd_tup : Ok (oAdd (t, .tup xs) (u, .tup ys)) Q ↔ xs.length + ys.length ≤ lim ∧ Q (mt2 (el t) (el u), .tup (xs ++ ys)) := by
  show Ok (if _ then _ else none) Q ↔ _
  rw [Ok_of_if, Ok_some]
@[simp] theorem Ok_catL : Ok (catL (t, .lst xs) (u, .lst ys)) Ql ↔ xs.length + ys.length ≤ lim ∧ Ql (mt2 (el t) (el u), xs ++ ys) := by
  show Ok (if _ then _ else none) Ql ↔ _
  rw [Ok_of_if, Ok_some]
@[simp] theorem Ok_oIx_lst : Ok (oIx (t, .lst xs) (u, .int i)) Q ↔ Ok (atI xs i) fun d => Q (nm (el t, d)) := by
  show Ok ((atI xs i).map _) Q ↔ _
  simp
@[simp] theorem Ok_oIx_scr : Ok (oIx (t, .scr xs) (u, .int i)) Q ↔ Ok (atI xs i) fun d => Q (nm (el t, d)) := by
  show Ok ((atI xs i).map _) Q ↔ _
  simp
@[simp] theorem Ok_oIx_tup : Ok (oIx (t, .tup xs) (u, .int i)) Q ↔ Ok (atI xs i) fun d => Q (nm (el t, d)) := by
  show Ok ((atI xs i).map _) Q ↔ _
  simp
@[simp] theorem Ok_r1K : Ok (r1K (t, .int j)) Qi ↔ (j < 4611686018427387904 ∧ -4611686018427387904 ≤ j) ∧ Qi (iRng j.toNat 0) := by
  show Ok (cif _ _ none) Qi ↔ _
  simp
@[simp] theorem Ok_r2K : Ok (r2K (t, .int i) (u, .int j)) Qi ↔ (i < 4611686018427387904 ∧ -4611686018427387904 ≤ i ∧ j < 4611686018427387904 ∧ -4611686018427387904 ≤ j) ∧ Qi (iRng (j - i).toNat i) := by
  show Ok (cif _ _ none) Qi ↔ _
  simp
@[simp] theorem Ok_lenS : Ok (lenB [(t, .str x)]) Q ↔ x.length ≤ lim ∧ Q (.N, .int x.length) := by
  show Ok (if _ then _ else none) Q ↔ _
  rw [Ok_of_if, Ok_some]
@[simp] theorem Ok_appR : Ok (appR n env ds (.N, d)) Qo ↔ ds.length ≤ lim ∧ Qo (.nx (env.put n (.own (ds ++ [d])))) := by
  show Ok (if _ then _ else none) Qo ↔ _
  rw [Ok_of_if, Ok_some]
@[simp] theorem Ok_extR : Ok (extR n env ds (.N, .lst es)) Qo ↔ ds.length + es.length ≤ lim ∧ Qo (.nx (env.put n (.own (ds ++ es)))) := by
  show Ok (if _ then _ else none) Qo ↔ _
  rw [Ok_of_if, Ok_some]
@[simp] theorem Ok_slD_str {lo hi : Option Int} : Ok (slD (t, .str x) lo hi) Q ↔ x.length ≤ lim ∧ Q (.N, .str (cutS x lo hi)) := by
  show Ok (if _ then _ else none) Q ↔ _
  rw [Ok_of_if, Ok_some]
/-- x[i] = e -/
def putR (n : Nat) (env : Ev) (ds : List D) (r k : TD) : Option Out := match r.1, k.2 with
  | .N, .int j => (ixN ds.length j).map fun m => .nx (env.put n (.own (ds.set m r.2)))
  | _, _ => none
def putK' (n : Nat) (g : FE) (env : Ev) (r : TD) : Sl → Option Out
  | .own ds => (g env).bind (putR n env ds r)
  | _ => none
@[simp] theorem sPut_eq : sPut n g f env = (f env).bind fun r => (env.s[n]?).bind (putK' n g env r) := by
  unfold sPut
  congr 1
  funext r
  cases h : env.s[n]? with
  | none => rfl
  | some s => cases s <;> rfl
@[simp] theorem putK'_own : putK' n g env r (.own ds) = (g env).bind (putR n env ds r) := rfl
@[simp] theorem putR_N : putR n env ds (.N, d) (t, .int j) = (ixN ds.length j).map fun m => .nx (env.put n (.own (ds.set m d))) := rfl
@[simp] theorem wipeE_nil : wipeE env [] = env := rfl
@[simp] theorem wipeE_cons {v : Nat} {vs : List Nat} : wipeE env (v :: vs) = (wipeE env vs).put v .un := rfl
/-! the places of a list -/
/-! loops -/
theorem forL_inv {A : FS} {s : TD → Ev → Option Ev} {Q : Out → Prop} : ∀ {items : List TD} (I : Nat → Ev → Prop) (k0 : Nat) {env : Ev}, I k0 env →
    (∀ (k : Nat) (r : TD) (env : Ev), items[k]? = some r → I (k0 + k) env → Ok (s r env) fun e1 => Ok (A e1) fun o => match o with
      | .nx e => I (k0 + k + 1) e
      | .ct e => I (k0 + k + 1) e
      | .bk e => Q (.nx e)
      | o => Q o) → (∀ env, I (k0 + items.length) env → Q (.nx env)) → Ok (forL A s items env) Q
  | [], I, k0, env, h0, _, he => by rw [forL_nil]; exact Ok_some.mpr (he env h0)
  | r :: rs, I, k0, env, h0, hs, he => by
    rw [forL_cons]
    obtain ⟨e1, q1, o, q2, q3⟩ := hs 0 r env rfl h0
    rw [q1]
    show Ok ((A e1).bind _) Q
    rw [q2]
    have next : ∀ e, I (k0 + 1) e → Ok (forL A s rs e) Q := fun e hi => forL_inv I (k0 + 1) hi (fun k r env hk hI => by
      have := hs (k + 1) r env (by simpa using hk) (by rw [Nat.add_assoc, Nat.add_comm 1 k] at hI; exact hI)
      rw [Nat.add_assoc k0 1 k, Nat.add_comm 1 k]
      exact this) (fun env hI => he env (by rw [List.length_cons, Nat.add_comm rs.length 1, ← Nat.add_assoc]; exact hI))
    cases o with
    | nx e => exact next e q3
    | ct e => exact next e q3
    | bk e => exact Ok_some.mpr q3
    | rt r => exact Ok_some.mpr q3
    | rth x T => exact Ok_some.mpr q3
/-- a loop, from its first turn -/
theorem forL_ok {A : FS} {s : TD → Ev → Option Ev} {Q : Out → Prop} {items : List TD} (I : Nat → Ev → Prop) {env : Ev} (h0 : I 0 env)
    (hs : ∀ (k : Nat) (r : TD) (env : Ev), items[k]? = some r → I k env → Ok (s r env) fun e1 => Ok (A e1) fun o => match o with
      | .nx e => I (k + 1) e
      | .ct e => I (k + 1) e
      | .bk e => Q (.nx e)
      | o => Q o) (he : ∀ env, I items.length env → Q (.nx env)) : Ok (forL A s items env) Q :=
  forL_inv I 0 h0 (fun k r env hk hI => by simpa using hs k r env hk (by simpa using hI)) (fun env hI => he env (by simpa using hI))
/-! comprehensions: each item by itself -/
inductive All2 {α β : Type} (P : α → β → Prop) : List α → List β → Prop
  | nil : All2 P [] []
  | cons {x : α} {y : β} {xs : List α} {ys : List β} : P x y → All2 P xs ys → All2 P (x :: xs) (y :: ys)
theorem All2.length {α β : Type} {P : α → β → Prop} : ∀ {xs : List α} {ys : List β}, All2 P xs ys → ys.length = xs.length
  | _, _, .nil => rfl
  | _, _, .cons _ r => congrArg Nat.succ r.length
theorem All2.get {α β : Type} {P : α → β → Prop} : ∀ {xs : List α} {ys : List β} {k : Nat} {y : β}, All2 P xs ys → ys[k]? = some y → ∃ x, xs[k]? = some x ∧ P x y
  | _, _, _, _, .nil, e => by simp at e
  | _, _, 0, _, .cons h _, e => by simp at e; subst e; exact ⟨_, rfl, h⟩
  | _, _, k + 1, _, .cons _ r, e => by simpa using r.get (k := k) (by simpa using e)
theorem All2.mem {α β : Type} {P : α → β → Prop} : ∀ {xs : List α} {ys : List β} {y : β}, All2 P xs ys → y ∈ ys → ∃ x ∈ xs, P x y
  | _, _, _, .nil, h => by simp at h
  | _, _, _, .cons (x := x) h r, e => (List.mem_cons.mp e).elim (fun q => ⟨x, List.mem_cons_self, by rw [q]; exact h⟩) fun q => let ⟨x', h1, h2⟩ := r.mem q; ⟨x', List.mem_cons_of_mem _ h1, h2⟩
/-- .. each worth a thing of some kind -/
theorem lcL_mk {α : Type} (f : α → D) (P : TD → α → Prop) {fe : FE} {s : TD → Ev → Option Ev} {env : Ev} : ∀ {rs : List TD}, (∀ r ∈ rs, Ok (s r env) fun e => Ok (fe e) fun y => ∃ a, y = (.N, f a) ∧ P r a) →
    ∃ as : List α, lcL sYes fe s env rs = some (as.map fun a => (Tg.N, f a)) ∧ All2 P rs as
  | [], _ => ⟨[], rfl, .nil⟩
  | r :: rs, h => by
    obtain ⟨e, q1, y, q2, a, rfl, q4⟩ := h r List.mem_cons_self
    obtain ⟨as, q5, q7⟩ := lcL_mk f P (rs := rs) fun r hr => h r (List.mem_cons_of_mem _ hr)
    refine ⟨a :: as, ?_, .cons q4 q7⟩
    unfold lcL
    rw [q1, q5]
    simp [q2, okT]
@[simp] theorem map_snd {α : Type} (xs : List α) (F : α → D) : (xs.map fun r => (Tg.N, F r)).map (fun x : TD => x.2) = xs.map F := by
  rw [List.map_map]; rfl
@[simp] theorem map_snd' {α : Type} (xs : List α) (F : α → D) : xs.map ((fun x : TD => x.2) ∘ fun r => (Tg.N, F r)) = xs.map F := rfl
@[simp] theorem map_nmN {α : Type} (xs : List α) (F : α → D) : (xs.map F).map (fun d => nm (Tg.N, d)) = xs.map fun r => (Tg.N, F r) := by
  rw [List.map_map]; simp [Function.comp_def]
@[simp] theorem tagL_Ns (ds : List D) : tagL (ds.map fun d => (Tg.N, d)) = .N := tagL_N fun r hr => by
  obtain ⟨d, _, rfl⟩ := List.mem_map.mp hr
  rfl
@[simp] theorem tagL_NF {α : Type} (xs : List α) (F : α → D) : tagL (xs.map fun r => (Tg.N, F r)) = .N := tagL_N fun r hr => by
  obtain ⟨d, _, rfl⟩ := List.mem_map.mp hr
  rfl
end
end Vf
namespace Vf
open PySem L2
/-! worths that change the table and may end in an exception -/
inductive XRes (α : Type) where | val (x : α) (T : Tb) | exc (c : Str) (ns : List Str) (xs : List HV) (T : Tb)
abbrev XF (α : Type) := Ev → Option (XRes α)
abbrev FX := XF HV
abbrev FXA := XF (List HV)
abbrev FXT := XF Bool
def kX {α β : Type} (k : α → Tb → Option (XRes β)) : XRes α → Option (XRes β)
  | .val x T => k x T
  | .exc c ns xs T => some (.exc c ns xs T)
def bX {α β : Type} (o : Option (XRes α)) (k : α → Tb → Option (XRes β)) : Option (XRes β) := o.bind (kX k)
/-- the exception's object, as it stands -/
def ExOk (Z : Zc) (w : Wd) (cls : Value) (d : Option Addr) (c : Str) (ns : List Str) (xs : List HV) : Prop :=
  ∃ C, Z.cl c = some C ∧ cls = .ref C ∧ ((ns = [] ∧ d = none) ∨ ∃ dx vs, d = some dx ∧ w.H dx = some (.xd (ns.zip vs)) ∧ vs.length = ns.length ∧ HvsOk Z w vs xs)
def XW (Z : Zc) (W : WX) (s : List Sl) (σ : L2.St) (w : Wd) (c : Str) (ns : List Str) (xs : List HV) (T : Tb) : Prop :=
  ∀ cls d w', Gs w w' → Wok Z ⟨s, T⟩ σ w' → ExOk Z w' cls d c ns xs → W cls d σ w'.H
def Fin {α : Type} (Z : Zc) (W : WX) (s : List Sl) (σ : L2.St) (w : Wd) (P : α → Tb → Prop) : XRes α → Prop
  | .val x T => P x T
  | .exc c ns xs T => XW Z W s σ w c ns xs T
def PvX (Z : Zc) (s : List Sl) (σ : L2.St) (w : Wd) (Q : VK) (x : HV) (T : Tb) : Prop := ∀ v w', Gs w w' → Wok Z ⟨s, T⟩ σ w' → HvOk Z w' v x → Q v w'.H
def tX (Z : Zc) (W : WX) (f : FX) : TE := fun σ H Q => ∃ env w r, w.H = H ∧ Wok Z env σ w ∧ f env = some r ∧ Fin Z W env.s σ w (PvX Z env.s σ w Q) r
def PaX (Z : Zc) (s : List Sl) (σ : L2.St) (w : Wd) (Q : List V → Hp → Prop) (xs : List HV) (T : Tb) : Prop := ∀ vs w', Gs w w' → Wok Z ⟨s, T⟩ σ w' → HvsOk Z w' vs xs → Q vs w'.H
def tXA (Z : Zc) (W : WX) (f : FXA) : TA := fun σ H Q => ∃ env w r, w.H = H ∧ Wok Z env σ w ∧ f env = some r ∧ Fin Z W env.s σ w (PaX Z env.s σ w Q) r
def PtX (Z : Zc) (s : List Sl) (σ : L2.St) (w : Wd) (Q : Bool → Hp → Prop) (b : Bool) (T : Tb) : Prop := ∀ w', Gs w w' → Wok Z ⟨s, T⟩ σ w' → Q b w'.H
def tXT (Z : Zc) (W : WX) (f : FXT) : TT := fun σ H Q => ∃ env w r, w.H = H ∧ Wok Z env σ w ∧ f env = some r ∧ Fin Z W env.s σ w (PtX Z env.s σ w Q) r
section
variable {α β : Type} {Z : Zc} {W : WX} {s : List Sl} {σ : L2.St} {w w' : Wd} {c : Str} {ns : List Str} {xs : List HV} {T : Tb} {P : α → Tb → Prop} {P' : β → Tb → Prop} {r : XRes α} {q : XRes β} {env : Ev} {Q : VK}
theorem XW.mono (g : Gs w w') (h : XW Z W s σ w c ns xs T) : XW Z W s σ w' c ns xs T := fun cls d w2 g2 k e => h cls d w2 (g.trans g2) k e
/-- what is asked of the end, asked later -/
def Late (Z : Zc) (W : WX) (s : List Sl) (σ : L2.St) (w : Wd) (q : XRes β) : Prop := ∀ c ns xs T, q = .exc c ns xs T → XW Z W s σ w c ns xs T
theorem Fin.late (h : Fin Z W s σ w P' q) : Late Z W s σ w q := fun c ns xs T e => by subst e; exact h
theorem Late.mono (g : Gs w w') (h : Late Z W s σ w q) : Late Z W s σ w' q := fun c ns xs T e => (h c ns xs T e).mono g
theorem Late.fin (h : Late Z W s σ w q) (hv : ∀ x T, q = .val x T → P' x T) : Fin Z W s σ w P' q := by
  cases q with
  | val x T => exact hv x T rfl
  | exc c ns xs T => exact h c ns xs T rfl
theorem kX_cases {o : Option (XRes α)} {k : α → Tb → Option (XRes β)} (h : bX o k = some q) : (∃ x T, o = some (.val x T) ∧ k x T = some q) ∨ ∃ c ns xs T, o = some (.exc c ns xs T) ∧ q = .exc c ns xs T := by
  obtain ⟨r, h1, h2⟩ := Option.bind_eq_some_iff.mp h
  cases r with
  | val x T => exact .inl ⟨x, T, h1, h2⟩
  | exc c ns xs T => cases h2; exact .inr ⟨c, ns, xs, T, h1, rfl⟩
theorem bX_fin {o : Option (XRes α)} {k : α → Tb → Option (XRes β)} (h : bX o k = some q) (l : Late Z W s σ w q) (hv : ∀ x T, k x T = some q → P x T) : ∃ r, o = some r ∧ Fin Z W s σ w P r := by
  rcases kX_cases h with ⟨x, T, h1, h2⟩ | ⟨c, ns, xs, T, h1, h2⟩
  · exact ⟨_, h1, hv x T h2⟩
  · exact ⟨_, h1, l c ns xs T h2⟩
theorem tX_bind {f : FX} {k : HV → Tb → Option (XRes β)} (kk : Wok Z env σ w) (h : bX (f env) k = some q) (l : Late Z W env.s σ w q)
    (hq : ∀ x T v w1, k x T = some q → Gs w w1 → Wok Z ⟨env.s, T⟩ σ w1 → HvOk Z w1 v x → Q v w1.H) : tX Z W f σ w.H Q := by
  obtain ⟨r, h1, h2⟩ := bX_fin (P := PvX Z env.s σ w Q) h l fun x T hk v w1 g k1 hx => hq x T v w1 hk g k1 hx
  exact ⟨env, w, r, rfl, kk, h1, h2⟩
theorem tXA_bind {f : FXA} {k : List HV → Tb → Option (XRes β)} {Q : List V → Hp → Prop} (kk : Wok Z env σ w) (h : bX (f env) k = some q) (l : Late Z W env.s σ w q)
    (hq : ∀ x T v w1, k x T = some q → Gs w w1 → Wok Z ⟨env.s, T⟩ σ w1 → HvsOk Z w1 v x → Q v w1.H) : tXA Z W f σ w.H Q := by
  obtain ⟨r, h1, h2⟩ := bX_fin (P := PaX Z env.s σ w Q) h l fun x T hk v w1 g k1 hx => hq x T v w1 hk g k1 hx
  exact ⟨env, w, r, rfl, kk, h1, h2⟩
theorem tXT_bind {f : FXT} {k : Bool → Tb → Option (XRes β)} {Q : Bool → Hp → Prop} (kk : Wok Z env σ w) (h : bX (f env) k = some q) (l : Late Z W env.s σ w q)
    (hq : ∀ x T w1, k x T = some q → Gs w w1 → Wok Z ⟨env.s, T⟩ σ w1 → Q x w1.H) : tXT Z W f σ w.H Q := by
  obtain ⟨r, h1, h2⟩ := bX_fin (P := PtX Z env.s σ w Q) h l fun x T hk w1 g k1 => hq x T w1 hk g k1
  exact ⟨env, w, r, rfl, kk, h1, h2⟩
end
/-! what stands in the table, as a tree -/
def mapO {α β : Type} (f : α → Option β) : List α → Option (List β)
  | [] => some []
  | x :: xs => (f x).bind fun y => (mapO f xs).map fun ys => y :: ys
def snapM (f : HV → Option D) : Mob → Option D
  | .lst xs => (mapO f xs).map .lst
  | .tup xs => (mapO f xs).map .tup
  | .ins c fs xs => (mapO f xs).map (.ins c fs)
  | .dic ks xs => (mapO f xs).map (.dic ks)
def snapN (T : Tb) : Nat → HV → Option D
  | _, .pu d => some d
  | 0, .ob _ => none
  | n + 1, .ob k => match T[k]? with
    | some (some M) => snapM (snapN T n) M
    | _ => none
def tdX (T : Tb) : HV → Option TD
  | .pu d => some (.N, d)
  | .ob k => (snapN T 9 (.ob k)).map fun d => (.T, d)
theorem mapO_rp {Z : Zc} {w : Wd} {f : HV → Option D} (hf : ∀ v x d, HvOk Z w v x → f x = some d → Rp Z w.H v d) : ∀ {vs : List V} {xs : List HV} {ds : List D}, HvsOk Z w vs xs → mapO f xs = some ds → RpL Z w.H vs ds
  | [], [], _, _, e => by cases e; exact .nil
  | v :: vs, x :: xs, ds, ⟨h, r⟩, e => by
    obtain ⟨y, h1, h2⟩ := Option.bind_eq_some_iff.mp e
    obtain ⟨ys, h3, rfl⟩ := Option.map_eq_some_iff.mp h2
    exact .cons (hf _ _ _ h h1) (mapO_rp hf r h3)
  | [], _ :: _, _, h, _ => h.elim
  | _ :: _, [], _, h, _ => h.elim
theorem snap_rp {Z : Zc} {T : Tb} {w : Wd} (hw : Wf w) (t : TbOk Z T w) : ∀ (n : Nat) (v : V) (x : HV) (d : D), HvOk Z w v x → snapN T n x = some d → Rp Z w.H v d
  | 0, v, .pu d', d, h, e => by cases e; exact Rp.mono hw.nh h
  | n + 1, v, .pu d', d, h, e => by cases e; exact Rp.mono hw.nh h
  | 0, _, .ob _, _, _, e => by cases e
  | n + 1, v, .ob k, d, h, e => by
    unfold snapN at e
    split at e
    · rename_i M ej
      obtain ⟨a, rfl, h1⟩ := h
      obtain ⟨a', h2, h3, h4⟩ := t.at_ k M ej
      rw [h1] at h2
      cases h2
      have ih := fun v x d => snap_rp hw t n v x d
      cases M with
      | lst xs =>
        obtain ⟨ds, e1, rfl⟩ := Option.map_eq_some_iff.mp e
        obtain ⟨vs, e2, e3⟩ := h4
        exact .lst e2 (mapO_rp ih e3 e1)
      | tup xs =>
        obtain ⟨ds, e1, rfl⟩ := Option.map_eq_some_iff.mp e
        obtain ⟨vs, e2, e3⟩ := h4
        exact .tup (.of e2) (mapO_rp ih e3 e1)
      | ins c fs xs =>
        obtain ⟨ds, e1, rfl⟩ := Option.map_eq_some_iff.mp e
        obtain ⟨C, dx, vs, e2, e3, e4, e5⟩ := h4
        exact .ins e2 e3 e4 (mapO_rp ih e5 e1)
      | dic ks xs =>
        obtain ⟨ds, e1, rfl⟩ := Option.map_eq_some_iff.mp e
        obtain ⟨vs, e2, e3, e4⟩ := h4
        exact .dic (.inl e2) e3 (mapO_rp ih e4 e1)
    · cases e
theorem td_rv {Z : Zc} {T : Tb} {w : Wd} (hw : Wf w) (t : TbOk Z T w) {v : V} {x : HV} {r : TD} (h : HvOk Z w v x) (e : tdX T x = some r) : RV Z w r v := by
  cases x with
  | pu d => cases e; exact h
  | ob k =>
    obtain ⟨d, e1, rfl⟩ := Option.map_eq_some_iff.mp e
    exact snap_rp hw t 9 v (.ob k) d h e1
theorem tds_rv {Z : Zc} {T : Tb} {w : Wd} (hw : Wf w) (t : TbOk Z T w) : ∀ {vs : List V} {xs : List HV} {rs : List TD}, HvsOk Z w vs xs → mapO (tdX T) xs = some rs → RVs Z w rs vs
  | [], [], _, _, e => by cases e; exact trivial
  | v :: vs, x :: xs, rs, ⟨h, r⟩, e => by
    obtain ⟨y, h1, h2⟩ := Option.bind_eq_some_iff.mp e
    obtain ⟨ys, h3, rfl⟩ := Option.map_eq_some_iff.mp h2
    exact ⟨td_rv hw t h h1, tds_rv hw t r h3⟩
  | [], _ :: _, _, h, _ => h.elim
  | _ :: _, [], _, h, _ => h.elim
/-- a pure end: it may be handed on -/
def resX (r : TD) (T : Tb) : Option (XRes HV) := if r.1 = .N then some (.val (.pu r.2) T) else none
theorem resX_some {r : TD} {T : Tb} {q : XRes HV} (h : resX r T = some q) : r.1 = .N ∧ q = .val (.pu r.2) T := by
  unfold resX at h
  split at h
  · rename_i hh
    cases h
    exact ⟨hh, rfl⟩
  · cases h
theorem resX_ok {Z : Zc} {W : WX} {s : List Sl} {σ : L2.St} {w w1 w2 : Wd} {Q : VK} {r : TD} {T : Tb} {q : XRes HV} {v : V} (h : resX r T = some q) (l : Fin Z W s σ w (PvX Z s σ w Q) q) (g : Gs w w1) (k1 : Wok Z ⟨s, T⟩ σ w1) (g2 : Gr w1 w2) (hr : RV Z w2 r v) : Q v w2.H := by
  obtain ⟨h1, rfl⟩ := resX_some h
  obtain ⟨t, d⟩ := r
  have h1 : t = .N := h1
  subst h1
  exact l v w2 (g.trans (g2.gs k1.wf)) (k1.mono g2) hr
end Vf
namespace Vf
open PySem L2
/-! ### expressions -/
def xE (f : FE) : FX := fun env => (f env).bind fun r => resX r env.t
def xH (h : FH) : FX := fun env => (h env).map fun x => .val x env.t
def opX (o : TD → TD → Option TD) (x y : HV) (T : Tb) : Option (XRes HV) := (tdX T x).bind fun a => (tdX T y).bind fun b => (o a b).bind fun r => resX r T
def xOp (o : TD → TD → Option TD) (f g : FX) : FX := fun env => bX (f env) fun x T1 => bX (g ⟨env.s, T1⟩) fun y T2 => opX o x y T2
def unX (o : TD → Option TD) (x : HV) (T : Tb) : Option (XRes HV) := (tdX T x).bind fun a => (o a).bind fun r => resX r T
def xUn (o : TD → Option TD) (f : FX) : FX := fun env => bX (f env) (unX o)
def boolX (x : HV) : Option Bool := match x with | .pu (.bl b) => some b | _ => none
def xNotV (f : FX) : FX := fun env => bX (f env) fun x T => (boolX x).map fun b => .val (.pu (.bl (!b))) T
def xAndV (f g : FX) : FX := fun env => bX (f env) fun x T => (boolX x).bind fun b => if b then g ⟨env.s, T⟩ else some (.val (.pu (.bl false)) T)
def xOrV (f g : FX) : FX := fun env => bX (f env) fun x T => (boolX x).bind fun b => if b then some (.val (.pu (.bl true)) T) else g ⟨env.s, T⟩
def truX (T : Tb) (x : HV) : Option Bool := match x with
  | .pu d => tru (.N, d)
  | .ob k => match T[k]? with
    | some (some (.lst xs)) => some (!xs.isEmpty)
    | some (some (.tup xs)) => some (!xs.isEmpty)
    | _ => none
def xTru (f : FX) : FXT := fun env => bX (f env) fun x T => (truX T x).map fun b => .val b T
def xBl (f : FX) : FXT := fun env => bX (f env) fun x T => (boolX x).map fun b => .val b T
def xNotT (c : FXT) : FXT := fun env => bX (c env) fun b T => some (.val (!b) T)
def xAndT (c d : FXT) : FXT := fun env => bX (c env) fun b T => if b then d ⟨env.s, T⟩ else some (.val false T)
def xOrT (c d : FXT) : FXT := fun env => bX (c env) fun b T => if b then some (.val true T) else d ⟨env.s, T⟩
def xIfe (c : FXT) (f g : FX) : FX := fun env => bX (c env) fun b T => if b then f ⟨env.s, T⟩ else g ⟨env.s, T⟩
def xNil : FXA := fun env => some (.val [] env.t)
def xCons (f : FX) (g : FXA) : FXA := fun env => bX (f env) fun x T => bX (g ⟨env.s, T⟩) fun xs T2 => some (.val (x :: xs) T2)
def bK (o : List TD → Option TD) (xs : List HV) (T : Tb) : Option (XRes HV) := (mapO (tdX T) xs).bind fun rs => (o rs).bind fun r => resX r T
def xB (o : List TD → Option TD) (fa : FXA) : FX := fun env => bX (fa env) (bK o)
/-- a call of a pure def -/
def pK (g : List TD → Option TD) (xs : List HV) (T : Tb) : Option (XRes HV) := (mapO (tdX T) xs).bind fun rs => (g (rs.map dn)).bind fun r => resX (up r) T
def xCallP (g : List TD → Option TD) (fa : FXA) : FX := fun env => bX (fa env) (pK g)
section
variable {X : Cx} {cl : Str → Option Addr} {W : WX} {a b c e : Expr} {es : List Expr} {f g h : FX} {fa : FXA} {ct dt : FXT} {pos : Pos}
theorem jx_e {f : FE} (he : PE X e (tE (zx X cl) f)) : PE X e (tX (zx X cl) W (xE f)) := by
  refine pe_w he fun σ H Q ⟨env, w, r, e, k, hr, q⟩ => ?_
  subst e
  obtain ⟨x, h1, h2⟩ := Option.bind_eq_some_iff.mp hr
  exact ⟨env, w, x, rfl, k, h1, fun v w' g rv => resX_ok h2 q (Gs.refl k.wf) k g rv⟩
theorem jx_h {h : FH} (he : PE X e (tH (zx X cl) h)) : PE X e (tX (zx X cl) W (xH h)) := by
  refine pe_w he fun σ H Q ⟨env, w, r, e, k, hr, q⟩ => ?_
  subst e
  obtain ⟨x, h1, rfl⟩ := Option.map_eq_some_iff.mp hr
  exact ⟨env, w, x, rfl, k, h1, fun v w' g hv => q v w' (g.gs k.wf) (k.mono g) hv⟩
theorem xOp_rd {o : TD → TD → Option TD} {σ : L2.St} {H : Hp} {Q : VK} {Z : Zc} (hh : tX Z W (xOp o f g) σ H Q) : tOp (rO Z o) (tX Z W f) (tX Z W g) σ H Q := by
  obtain ⟨env, w, r, e, k, h, q⟩ := hh
  subst e
  show tX Z W f σ w.H _
  refine tX_bind k h q.late fun x T1 v w1 h1 g1 k1 hx => ?_
  refine tX_bind k1 h1 (q.late.mono g1) fun y T2 u w2 h2 g2 k2 hy => ?_
  obtain ⟨ra, e1, h3⟩ := Option.bind_eq_some_iff.mp h2
  obtain ⟨rb, e2, h4⟩ := Option.bind_eq_some_iff.mp h3
  obtain ⟨z, e3, h5⟩ := Option.bind_eq_some_iff.mp h4
  exact ⟨w2, ra, rb, z, rfl, k2.wf, td_rv k2.wf k2.tb (hx.mono g2.n g2.m) e1, td_rv k2.wf k2.tb hy e2, e3, fun v' w3 g3 r3 => resX_ok h5 q (g1.trans g2) k2 g3 r3⟩
theorem jx_cmp {op : CmpOp} {o : TD → TD → Option TD} (ho : OpR X (compareOp op) (rO (zx X cl) o)) (ha : PE X a (tX (zx X cl) W f)) (hb : PE X b (tX (zx X cl) W g)) (hm : behindInMarks op b = false := by first | exact nomark _ | rfl) : PE X (.Compare a [op] [b] pos) (tX (zx X cl) W (xOp o f g)) :=
  pe_w (pe_cmpR ho ha hb hm) fun _ _ _ hh => xOp_rd hh
theorem bool_hv {Z : Zc} {w : Wd} {v : V} {x : HV} {b : Bool} (h : HvOk Z w v x) (e : boolX x = some b) : v = .bl b := by
  unfold boolX at e
  split at e
  · cases e
    exact rp_val (d := .bl _) rfl h
  · cases e
theorem tru_hv {Z : Zc} {T : Tb} {w : Wd} (hw : Wf w) (t : TbOk Z T w) {v : V} {x : HV} {b : Bool} (h : HvOk Z w v x) (e : truX T x = some b) : TruV Z.K v w.H b := by
  cases x with
  | pu d => exact tru_v (r := (.N, d)) hw e h
  | ob k =>
    unfold truX at e
    dsimp only at e
    obtain ⟨p, rfl, h1⟩ := h
    split at e
    · rename_i xs ej
      cases e
      obtain ⟨a', h2, h3, vs, h4, h5⟩ := t.at_ k _ ej
      rw [h1] at h2
      cases h2
      refine .inl ⟨vs, SqL.of h4, ?_⟩
      have hl := h5.length
      cases vs <;> cases xs <;> first | rfl | (simp at hl)
    · rename_i xs ej
      cases e
      obtain ⟨a', h2, h3, vs, h4, h5⟩ := t.at_ k _ ej
      rw [h1] at h2
      cases h2
      refine .inr (.inl ⟨vs, .of h4, ?_⟩)
      have hl := h5.length
      cases vs <;> cases xs <;> first | rfl | (simp at hl)
    · cases e
theorem jx_and1 (ha : PE X a (tX (zx X cl) W f)) : PE X (.BoolOp .And [a] pos) (tX (zx X cl) W f) := pe_one ha
/-- the rest of an expression, by its own reading -/
theorem tX_rest {Z : Zc} {s : List Sl} {σ : L2.St} {w w1 : Wd} {Q : VK} {T : Tb} {q : XRes HV} (h : f ⟨s, T⟩ = some q) (l : Fin Z W s σ w (PvX Z s σ w Q) q) (g : Gs w w1) (k : Wok Z ⟨s, T⟩ σ w1) : tX Z W f σ w1.H Q :=
  ⟨⟨s, T⟩, w1, q, rfl, k, h, (l.late.mono g).fin fun x T' e => by subst e; exact fun v w' g' k' hv => l v w' (g.trans g') k' hv⟩
theorem jx_and (ha : PE X a (tX (zx X cl) W f)) (hb : PE X (.BoolOp .And (b :: es) pos) (tX (zx X cl) W g)) : PE X (.BoolOp .And (a :: b :: es) pos) (tX (zx X cl) W (xAndV f g)) := by
  refine pe_w (pe_and ha hb) fun σ H Q ⟨env, w, r, e, k, h, q⟩ => ?_
  subst e
  refine tX_bind k h q.late fun x T1 v w1 h1 g1 k1 hx => ?_
  obtain ⟨y, e1, h2⟩ := Option.bind_eq_some_iff.mp h1
  refine ⟨y, bool_hv hx e1, ?_⟩
  cases y with
  | true => exact tX_rest h2 q g1 k1
  | false =>
    cases h2
    exact q _ w1 g1 k1 (.bl _)
/-! tests -/
theorem jxt_v (ha : PE X a (tX (zx X cl) W f)) (he : ∀ whole, isTrue a X.env whole = (do let v ← whole; standAt a.pos; holding [v] (truthy v)) := by intro _; rfl) : PT X a (tXT (zx X cl) W (xTru f)) := by
  refine pt_w (pt_truth ha he) fun σ H Q ⟨env, w, r, e, k, h, q⟩ => ?_
  subst e
  refine tX_bind k h q.late fun x T1 v w1 h1 g1 k1 hx => ?_
  obtain ⟨y, e1, rfl⟩ := Option.map_eq_some_iff.mp h1
  exact ⟨y, tru_hv k1.wf k1.tb hx e1, q w1 g1 k1⟩
theorem jxt_not (ha : PT X a (tXT (zx X cl) W ct)) : PT X (.UnaryOp .Not a pos) (tXT (zx X cl) W (xNotT ct)) := by
  refine pt_w (pt_not ha) fun σ H Q ⟨env, w, r, e, k, h, q⟩ => ?_
  subst e
  refine tXT_bind k h q.late fun x T1 w1 h1 g1 k1 => ?_
  cases h1
  exact q w1 g1 k1
theorem jxw_or1 (ha : PT X a (tXT (zx X cl) W ct)) : PW X (.BoolOp .Or [a] pos) (tXT (zx X cl) W ct) := pw_or1 ha
theorem tXT_rest {Z : Zc} {s : List Sl} {σ : L2.St} {w w1 : Wd} {Q : Bool → Hp → Prop} {T : Tb} {q : XRes Bool} (h : ct ⟨s, T⟩ = some q) (l : Fin Z W s σ w (PtX Z s σ w Q) q) (g : Gs w w1) (k : Wok Z ⟨s, T⟩ σ w1) : tXT Z W ct σ w1.H Q :=
  ⟨⟨s, T⟩, w1, q, rfl, k, h, (l.late.mono g).fin fun x T' e => by subst e; exact fun w' g' k' => l w' (g.trans g') k'⟩
theorem jxw_or (ha : PT X a (tXT (zx X cl) W ct)) (hb : PW X (.BoolOp .Or (b :: es) pos) (tXT (zx X cl) W dt)) : PW X (.BoolOp .Or (a :: b :: es) pos) (tXT (zx X cl) W (xOrT ct dt)) := by
  refine pw_w (pw_or ha hb) fun σ H Q ⟨env, w, r, e, k, h, q⟩ => ?_
  subst e
  refine tXT_bind k h q.late fun x T1 w1 h1 g1 k1 => ?_
  cases x with
  | false => exact tXT_rest h1 q g1 k1
  | true =>
    cases h1
    exact q w1 g1 k1
theorem jxt_w (ha : PW X a (tXT (zx X cl) W ct)) : PT X a (tXT (zx X cl) W ct) := ha.pt
/-! arguments, calls -/
theorem jxa_nil : PA X [] (tXA (zx X cl) W xNil) := ⟨fun ps pins s σ H Q I ⟨env, w, r, e, k, hr, q⟩ => pa_nil.run ps pins s σ H Q I (by
  subst e
  cases hr
  exact q [] w (Gs.refl k.wf) k trivial)⟩
theorem jxa_cons (ha : PE X a (tX (zx X cl) W f)) (hr : PA X es (tXA (zx X cl) W fa)) (hs : starEach (a :: es) X.env = (false, eval a X.env) :: starEach es X.env := by rfl) : PA X (a :: es) (tXA (zx X cl) W (xCons f fa)) := by
  refine pa_w (pa_cons ha hr hs) fun σ H Q ⟨env, w, r, e, k, h, q⟩ => ?_
  subst e
  refine tX_bind k h q.late fun x T1 v w1 h1 g1 k1 hx => ?_
  refine tXA_bind k1 h1 (q.late.mono g1) fun xs T2 vs w2 h2 g2 k2 hxs => ?_
  cases h2
  exact q _ w2 (g1.trans g2) k2 ⟨hx.mono g2.n g2.m, hxs⟩
theorem xB_rd {o : List TD → Option TD} {σ : L2.St} {H : Hp} {Q : VK} {Z : Zc} (hh : tX Z W (xB o fa) σ H Q) : tXA Z W fa σ H fun xs H1 => rC Z o xs H1 Q := by
  obtain ⟨env, w, r, e, k, h, q⟩ := hh
  subst e
  refine tXA_bind k h q.late fun xs T1 vs w1 h1 g1 k1 hxs => ?_
  obtain ⟨rs, e1, h2⟩ := Option.bind_eq_some_iff.mp h1
  obtain ⟨z, e2, h3⟩ := Option.bind_eq_some_iff.mp h2
  exact ⟨w1, rs, z, rfl, k1.wf, tds_rv k1.wf k1.tb hxs e1, e2, fun v w2 g2 rv => resX_ok h3 q g1 k1 g2 rv⟩
theorem jx_b {id : String} {x : Str} {p : Pos} {o : List TD → Option TD} (hc : CallR X (.builtin id) (rC (zx X cl) o)) (hm : X.mg x = none) (hv : bootBuiltins x = some (.builtin id)) (ha : PA X (a :: es) (tXA (zx X cl) W fa)) (hg : Gl X x := by rfl)
    (hn : x ≠ "__name__" := by decide) (hdb : (x == ("__debug__" : Str)) = false := by decide) (he : starEach (a :: es) X.env = (false, eval a X.env) :: starEach es X.env := by rfl) (hpl : (backTo pos (starEach es X.env)).any (·.1) = false := by rfl) : PE X (.Call (.Name x p) (a :: es) [] pos) (tX (zx X cl) W (xB o fa)) :=
  pe_w (pe_callB hc hg hm hv ha hn hdb he hpl) fun _ _ _ hh => xB_rd hh
/-- f(..), f a pure def -/
theorem jx_callP {x : Str} {p : Pos} {ps : List Str} {gg : List TD → Option TD} {k j : Nat} (C : Ca X.prog X.w X.K X.mg X.base cl k x ps gg) (hr : Room j X.A) (ha : PA X (a :: es) (tXA (zx X cl) W fa)) (hkj : k ≤ j := by decide) (hg : Gl X x := by rfl) (hdb : (x == ("__debug__" : Str)) = false := by decide)
    (he : starEach (a :: es) X.env = (false, eval a X.env) :: starEach es X.env := by rfl) (hpl : (backTo pos (starEach es X.env)).any (·.1) = false := by rfl) : PE X (.Call (.Name x p) (a :: es) [] pos) (tX (zx X cl) W (xCallP gg fa)) := by
  obtain ⟨f, fd, F, hm, hk, hb, _⟩ := C.ex
  refine pe_w (pe_call F (hr.mono hkj) hg hm hk hb .nil pass0 ha hdb he hpl) fun σ H Q ⟨env, w, r, e, kk, h, q⟩ => ?_
  subst e
  refine tXA_bind kk h q.late fun xs T1 vs w1 h1 g1 k1 hxs => ?_
  obtain ⟨rs, e1, h2⟩ := Option.bind_eq_some_iff.mp h1
  obtain ⟨z, e2, h3⟩ := Option.bind_eq_some_iff.mp h2
  show spG (zx X cl) gg (vs ++ []) w1.H Q E0
  rw [List.append_nil]
  refine ⟨w1.N, rs.map dn, z, k1.wf.nh, dn_rvs k1.wf (tds_rv k1.wf k1.tb hxs e1), ?_, e2, C.ok _ _ e2, fun v w' g2 r2 => ?_⟩
  · rw [List.all_map, List.all_eq_true]
    exact fun x _ => dn_ok x
  · obtain ⟨w2, g3, e3, r3⟩ := up_rv k1.wf g2 (C.ok _ _ e2) r2
    rw [← e3]
    exact resX_ok h3 q g1 k1 g3 r3
end
end Vf
namespace Vf
open PySem L2
/-! ### objects of the table, defs that change it and may raise -/
theorem back_X {Z : Zc} {env : Ev} {σ : L2.St} {w1 : Wd} (k : Wok Z env σ w1) {Bc : Hp} (hB1 : ∀ a, a ∈ w1.m → Bc a = w1.B a) (hB2 : ∀ a, a ∉ w1.m → Bc a = w1.H a) {w' : Wd} (g : Gs ⟨w1.N, Bc, w1.H, w1.m⟩ w') {T' : Tb} (ht : TbOk Z T' w') :
    ∃ w2, w2.H = w'.H ∧ w2.N = w'.N ∧ w2.m = w'.m ∧ Gs w1 w2 ∧ Wok Z ⟨env.s, T'⟩ σ w2 := by
  have hbb : Same w1.B Bc := fun a o e => by
    by_cases q : a ∈ w1.m
    · rw [hB1 a q]; exact e
    · rw [hB2 a q]; exact k.wf.bh _ _ e
  have hbw : Same w1.B w'.B := hbb.trans g.b
  let B2 : Hp := fun a => match w1.B a with | some o => some o | none => w'.N a
  have b1 : Same w1.B B2 := fun a o e => by show (match w1.B a with | some o => some o | none => w'.N a) = _; rw [e]
  have b2 : Same w'.N B2 := fun a o e => by
    show (match w1.B a with | some o => some o | none => w'.N a) = _
    cases q : w1.B a with
    | none => exact e
    | some u => exact (hbw _ _ q).symm.trans (g.wf.nb _ _ e)
  have b3 : Same B2 w'.H := fun a o e => by
    have e' : (match w1.B a with | some o => some o | none => w'.N a) = some o := e
    cases q : w1.B a with
    | none => rw [q] at e'; exact g.wf.nh _ _ e'
    | some u =>
      rw [q] at e'
      cases e'
      exact g.wf.bh _ _ (hbw _ _ q)
  have nf : ∀ a, w'.N a ≠ none → w1.N a ≠ none ∨ w1.B a = none := fun a z => (g.fn a z).imp id fun q => hbb.free q
  have b0 : ∀ a, w1.B a = none → w'.N a = none → B2 a = none := fun a z1 z2 => by
    show (match w1.B a with | some o => some o | none => w'.N a) = _
    rw [z1]
    exact z2
  refine ⟨⟨w'.N, B2, w'.H, w'.m⟩, rfl, rfl, rfl, ⟨⟨b2, b3⟩, g.n, b1, nf, g.m, fun a z => (g.mf a z).imp id fun q => hbb.free q⟩, ⟨⟨b2, b3⟩, k.len, fun i s e => ?_, k.dj, ?_⟩⟩
  · obtain ⟨o, h1, h2⟩ := k.sl i s e
    refine ⟨o, h1, ?_⟩
    cases s with
    | un => exact trivial
    | val t d =>
      obtain ⟨u, e1, e2⟩ := h2
      exact ⟨u, e1, e2.imp (fun ⟨x, y⟩ => ⟨x, Rp.mono g.n y⟩) fun ⟨x, y⟩ => ⟨x, Rp.mono b1 y⟩⟩
    | han n =>
      obtain ⟨a, e1, e2⟩ := h2
      refine ⟨a, e1, ?_⟩
      obtain ⟨l, hl⟩ := g.m
      show w'.m[n]? = _
      rw [← hl, List.getElem?_append_left (List.getElem?_eq_some_iff.mp e2).1]
      exact e2
    | own ds =>
      obtain ⟨p, vs, e1, h3, h4, h5, h6⟩ := h2
      have hb : Bc p = some (.lst vs) := (hB2 p h5).trans h3
      have hb' : w'.B p = some (.lst vs) := g.b _ _ hb
      have hn : w'.N p = none := by
        cases q : w'.N p with
        | none => rfl
        | some u =>
          rcases g.fn p (by rw [q]; exact fun z => nomatch z) with z | z
          · exact (z (k.wf.nb.free h4)).elim
          · have z : Bc p = none := z
            rw [hb] at z
            cases z
      refine ⟨p, vs, e1, g.wf.bh _ _ hb', b0 p h4 hn, fun z => ?_, RpL.mono g.n h6⟩
      rcases g.mf p z with z | z
      · exact h5 z
      · have z : Bc p = none := z
        rw [hb] at z
        cases z
  · refine ⟨ht.len, ht.nd, ht.hh, fun n M e => ?_⟩
    obtain ⟨a, h1, h2, h3⟩ := ht.at_ n M e
    exact ⟨a, h1, b0 a (hbw.free h2) (g.wf.nb.free h2), MobOk.mono (w := w') (w' := ⟨w'.N, B2, w'.H, w'.m⟩) (.refl _) (List.prefix_refl _) (fun _ z => z) h3⟩
theorem ExOk.same {Z : Zc} {w w' : Wd} {cls : Value} {d : Option Addr} {c : Str} {ns : List Str} {xs : List HV} (hH : w'.H = w.H) (hN : w'.N = w.N) (hm : w'.m = w.m) (h : ExOk Z w cls d c ns xs) : ExOk Z w' cls d c ns xs := by
  obtain ⟨C, h1, h2, h3⟩ := h
  refine ⟨C, h1, h2, h3.imp id fun ⟨dx, vs, e1, e2, e3, e4⟩ => ⟨dx, vs, e1, by rw [hH]; exact e2, e3, e4.mono (by rw [hN]; exact .refl _) (by rw [hm]; exact List.prefix_refl _)⟩⟩
/-- the promise of a def that sees the table and may raise -/
def spX (Z : Zc) (g : List HV → Tb → Option (XRes HV)) : Sp := fun vs H Q E => ∃ w xs T r, w.H = H ∧ Wf w ∧ TbOk Z T w ∧ HvsOk Z w vs xs ∧ g xs T = some r ∧
  (∀ x T', r = .val x T' → ∀ v w', Gs w w' → HvOk Z w' v x → TbOk Z T' w' → Q v w'.H) ∧ ∀ c ns ys T', r = .exc c ns ys T' → ∀ cls d w', Gs w w' → TbOk Z T' w' → ExOk Z w' cls d c ns ys → E cls d w'.H
theorem spX_at {Z : Zc} {W : WX} {σ : L2.St} {Q : VK} {env : Ev} {w : Wd} {xs : List HV} {vs : List V} {gg : List HV → Tb → Option (XRes HV)} {r : XRes HV} (k : Wok Z env σ w) (hv : HvsOk Z w vs xs) (h2 : gg xs env.t = some r) (q : Fin Z W env.s σ w (PvX Z env.s σ w Q) r) : spX Z gg vs w.H Q (WE W σ) := by
  have dec : ∀ a, Decidable (a ∈ w.m) := fun a => Classical.propDecidable _
  let Bc : Hp := fun a => if a ∈ w.m then w.B a else w.H a
  have hB1 : ∀ a, a ∈ w.m → Bc a = w.B a := fun a z => if_pos z
  have hB2 : ∀ a, a ∉ w.m → Bc a = w.H a := fun a z => if_neg z
  have wf : Wf ⟨w.N, Bc, w.H, w.m⟩ := by
    refine ⟨fun a o e => ?_, fun a o e => ?_⟩
    · by_cases z : a ∈ w.m
      · exact (hB1 a z).trans (k.wf.nb _ _ e)
      · exact (hB2 a z).trans (k.wf.nh _ _ e)
    · have e : Bc a = some o := e
      by_cases z : a ∈ w.m
      · exact k.wf.bh _ _ ((hB1 a z).symm.trans e)
      · exact (hB2 a z).symm.trans e
  have tb : TbOk Z env.t ⟨w.N, Bc, w.H, w.m⟩ := ⟨k.tb.len, k.tb.nd, k.tb.hh, fun n M e => by
    obtain ⟨a, h3, h4, h5⟩ := k.tb.at_ n M e
    exact ⟨a, h3, (hB1 a (List.mem_of_getElem? h3)).trans h4, MobOk.mono (w := w) (w' := ⟨w.N, Bc, w.H, w.m⟩) (.refl _) (List.prefix_refl _) (fun _ z => z) h5⟩⟩
  refine ⟨⟨w.N, Bc, w.H, w.m⟩, xs, env.t, r, rfl, wf, tb, HvsOk.mono (w := w) (w' := ⟨w.N, Bc, w.H, w.m⟩) (.refl _) (List.prefix_refl _) hv, h2, fun x T' e v w' g hx ht => ?_, fun c ns ys T' e cls d w' g ht hx => ?_⟩
  · subst e
    obtain ⟨w2, e2, eN, em, g2, k2⟩ := back_X k hB1 hB2 g ht
    rw [← e2]
    exact q v w2 g2 k2 (HvOk.mono (by rw [eN]; exact .refl _) (by rw [em]; exact List.prefix_refl _) hx)
  · subst e
    obtain ⟨w2, e2, eN, em, g2, k2⟩ := back_X k hB1 hB2 g ht
    show W cls d σ w'.H
    rw [← e2]
    exact q cls d w2 g2 k2 (hx.same e2 eN em)
structure CaX (P : Program) (w : World) (K : PySem.W.Frag) (mg : Str → Option Value) (base : Heap) (cl : Str → Option Addr) (k : Nat) (x : Str) (ps : List Str) (g : List HV → Tb → Option (XRes HV)) : Prop where
  ex : ∃ f fd, FnOk P w K mg base (L2.CX P w) k f fd ps (spX ⟨K, cl⟩ g) ∧ mg x = some (.ref f) ∧ PySem.W.keepIn K (.ref f) = true ∧ Binds K fd ps []
def xCall (g : List HV → Tb → Option (XRes HV)) (fa : FXA) : FX := fun env => bX (fa env) g
/-- a new object of the table -/
theorem new_ok {Z : Zc} {s : List Sl} {T : Tb} {σ : L2.St} {w : Wd} (k : Wok Z ⟨s, T⟩ σ w) {p : Addr} {o : HO} {M : Mob} (hp : w.H p = none) (hM : MobOk Z ⟨w.N, w.B, upd w.H p o, w.m⟩ p M) :
    ∃ w2, w2.H = upd w.H p o ∧ Gs w w2 ∧ Wok Z ⟨s, T ++ [some M]⟩ σ w2 ∧ HvOk Z w2 (.ref p) (.ob T.length) := by
  have gH : Same w.H (upd w.H p o) := same_up hp
  have g2 : Gr w ⟨w.N, w.B, upd w.H p o, w.m⟩ := ⟨⟨k.wf.nb, k.wf.bh.trans gH⟩, .refl _, .refl _, gH, fun _ z => .inl z, fun _ z => .inl z, rfl⟩
  obtain ⟨k2, g3⟩ := k.tnew g2 (p := p) (o := o) (M := M) hp upd_same (k.wf.bh.free hp) hM
  refine ⟨_, rfl, g3, k2, p, rfl, ?_⟩
  have hlen := k.tb.len
  have hlen : T.length = w.m.length := hlen
  show (w.m ++ [p])[T.length]? = _
  rw [hlen, List.getElem?_append_right (Nat.le_refl _)]
  simp
def tupK (xs : List HV) (T : Tb) : Option (XRes HV) := if xs.length ≤ lim then (match pures xs with
  | some ds => some (.val (.pu (.tup ds)) T)
  | none => some (.val (.ob T.length) (T ++ [some (.tup xs)]))) else none
def xTup (fa : FXA) : FX := fun env => bX (fa env) tupK
def lstK (xs : List HV) (T : Tb) : Option (XRes HV) := if xs.length ≤ lim then some (.val (.ob T.length) (T ++ [some (.lst xs)])) else none
def xLst (fa : FXA) : FX := fun env => bX (fa env) lstK
def fldX (cs : List Str) (n : Str) (x : HV) (T : Tb) : Option (XRes HV) := match x with
  | .pu (.ins c fs ds) => if c ∈ cs then ((fs.zip ds).lookup n).map fun d => .val (.pu d) T else none
  | .pu _ => none
  | .ob k => match T[k]? with
    | some (some (.ins c fs xs)) => if c ∈ cs then ((fs.zip xs).lookup n).map fun y => .val y T else none
    | _ => none
def xFld (cs : List Str) (n : Str) (f : FX) : FX := fun env => bX (f env) (fldX cs n)
def ixX (T : Tb) (x : HV) (i : Int) : Option HV := match x with
  | .pu d => (ixD (.N, d) i).bind fun r => if r.1 = .N then some (.pu r.2) else none
  | .ob k => match T[k]? with
    | some (some (.lst xs)) => atI xs i
    | some (some (.tup xs)) => atI xs i
    | some (some (.dic ks xs)) => dgt ks xs (.inl i)
    | _ => none
def ixXS (T : Tb) (x : HV) (z : Str) : Option HV := match x with
  | .pu d => (ixS (.N, d) z).bind fun r => if r.1 = .N then some (.pu r.2) else none
  | .ob k => match T[k]? with
    | some (some (.dic ks xs)) => dgt ks xs (.inr z)
    | _ => none
def ixA (T : Tb) (x : HV) (y : D) : Option HV := match y with
  | .int i => ixX T x i
  | .str z => ixXS T x z
  | _ => none
def ixK (x y : HV) (T : Tb) : Option (XRes HV) := match y with
  | .pu (.int i) => (ixX T x i).map fun z => .val z T
  | .pu (.str i) => (ixXS T x i).map fun z => .val z T
  | _ => none
def xIx (f g : FX) : FX := fun env => bX (f env) fun x T1 => bX (g ⟨env.s, T1⟩) fun y T2 => ixK x y T2
section
variable {X : Cx} {cl : Str → Option Addr} {W : WX} {a b c e : Expr} {es : List Expr} {f g h : FX} {fa : FXA} {ct dt : FXT} {pos : Pos} {gg : List HV → Tb → Option (XRes HV)} {ps : List Str} {k j : Nat}
theorem jx_call {x : Str} {p : Pos} (C : CaX X.prog X.w X.K X.mg X.base cl k x ps gg) (tk : Takes X W) (hr : Room j X.A) (ha : PA X (a :: es) (tXA (zx X cl) W fa)) (hkj : k ≤ j := by decide) (hg : Gl X x := by rfl) (hdb : (x == ("__debug__" : Str)) = false := by decide)
    (he : starEach (a :: es) X.env = (false, eval a X.env) :: starEach es X.env := by rfl) (hpl : (backTo pos (starEach es X.env)).any (·.1) = false := by rfl) : PE X (.Call (.Name x p) (a :: es) [] pos) (tX (zx X cl) W (xCall gg fa)) := by
  obtain ⟨f, fd, F, hm, hk, hb⟩ := C.ex
  refine pe_w (pe_callS F (hr.mono hkj) hg hm hk hb (fun σ => passAt tk σ) ha hdb he hpl) fun σ H Q ⟨env, w, r, e, kk, h, q⟩ => ?_
  subst e
  refine tXA_bind kk h q.late fun xs T1 vs w1 h1 g1 k1 hxs => ?_
  exact spX_at k1 hxs h1 ((q.late.mono g1).fin fun x T' e => by subst e; exact fun v w' g' k' hv => q v w' (g1.trans g') k' hv)
theorem jx_lst (h : PA X es (tXA (zx X cl) W fa)) : PE X (.List es pos) (tX (zx X cl) W (xLst fa)) := by
  refine pe_w (pe_lst h) fun σ H Q ⟨env, w, r, e, kk, h, q⟩ => ?_
  subst e
  refine tXA_bind kk h q.late fun xs T1 vs w1 h1 g1 k1 hxs => ?_
  unfold lstK at h1
  split at h1
  · rename_i hl
    refine ⟨lim_le (by rw [hxs.length]; exact hl), fun p hp => ?_⟩
    cases h1
    obtain ⟨w2, e2, g2, k2, hx⟩ := new_ok k1 (o := .lst vs) (M := .lst xs) hp ⟨vs, upd_same, HvsOk.mono (w := w1) (w' := ⟨w1.N, w1.B, upd w1.H p (.lst vs), w1.m⟩) (.refl _) (List.prefix_refl _) hxs⟩
    rw [← e2]
    exact q _ w2 (g1.trans g2) k2 hx
  · cases h1
theorem dgt_hv {Z : Zc} {w : Wd} : ∀ {ks : List Key} {vs : List V} {xs : List HV} {q : Key} {x : HV}, HvsOk Z w vs xs → dgt ks xs q = some x → ∃ v, dgt ks vs q = some v ∧ HvOk Z w v x
  | [], _, _, _, _, _, h => by cases h
  | _ :: _, [], [], _, _, _, h => by cases h
  | k :: ks, v :: vs, y :: xs, q, x, ⟨h, r⟩, e => by
    unfold dgt at e ⊢
    by_cases c : k = q
    · rw [if_pos c] at e ⊢; cases e; exact ⟨_, rfl, h⟩
    · rw [if_neg c] at e ⊢; exact dgt_hv r e
  | _ :: _, [], _ :: _, _, _, h, _ => h.elim
  | _ :: _, _ :: _, [], _, _, h, _ => h.elim
def rIX (Z : Zc) : R2 := fun x y H Q => ∃ w T a d z, w.H = H ∧ Wf w ∧ TbOk Z T w ∧ HvOk Z w x a ∧ HvOk Z w y (.pu d) ∧ ixA T a d = some z ∧ ∀ v w', Gr w w' → HvOk Z w' v z → Q v w'.H
theorem ixA_pu {T : Tb} {d y : D} {z : HV} (h : ixA T (.pu d) y = some z) : ∃ r, oIx (.N, d) (.N, y) = some (.N, r) ∧ z = .pu r := by
  have key : ∀ o : Option TD, (o.bind fun r => if r.1 = .N then some (HV.pu r.2) else none) = some z → ∃ r, o = some (.N, r) ∧ z = .pu r := fun o h => by
    obtain ⟨⟨t, r⟩, h1, h2⟩ := Option.bind_eq_some_iff.mp h
    dsimp only at h2
    split at h2
    · rename_i ht; subst ht; cases h2; exact ⟨r, h1, rfl⟩
    · cases h2
  cases y <;> first | exact key _ h | cases h
theorem ix_x (hX : XS X) : IxR X (rIX (zx X cl)) := by
  rintro value slice pins s σ H x y v u Q I rx ry ⟨w, T, a, y', z, eH, hw, ht, hx, hy, ho, q⟩ hs
  subst eH
  cases a with
  | pu d =>
    obtain ⟨r, h1, rfl⟩ := ixA_pu ho
    exact ix_d (cl := cl) hX value slice pins s σ _ _ _ v u Q I rx ry ⟨w, (.N, d), (.N, y'), _, rfl, hw, hx, hy, h1, fun v w' g rv => q v w' g rv⟩ hs
  | ob k =>
    obtain ⟨p, rfl, h3⟩ := hx
    have dic : ∀ {ks : List Key} {xs : List HV} {kk : Key}, T[k]? = some (some (.dic ks xs)) → keyD y' = some kk → dgt ks xs kk = some z → wpAny (model X.prog X.w) X.A (PyProof.Rows.subscriptTail value slice v u) (EP X pins σ Q) X.xe s := fun {ks xs kk} ej hk hd => by
      obtain ⟨p', h4, h5, vs, h6, h7, h8⟩ := ht.at_ _ _ ej
      rw [h3] at h4
      cases h4
      obtain ⟨s1, s2⟩ := keyD_v hk
      obtain rfl := rp_val s1 hy
      obtain ⟨v0, h9, h10⟩ := dgt_hv h8 hd
      exact ix_dict hX value slice pins s σ _ _ _ v u Q I rx ry ⟨p, v0, rfl, .inl ⟨_, kk, .inl h6, s2, by rw [dgt_val, h9]⟩, q v0 w (Gr.refl hw) h10⟩ hs
    unfold ixA at ho
    split at ho
    · rename_i i
      unfold ixX at ho
      dsimp only at ho
      obtain rfl := rp_val (d := .int i) rfl hy
      split at ho
      · rename_i xs ej
        obtain ⟨p', h4, h5, vs, h6, h7⟩ := ht.at_ _ _ ej
        rw [h3] at h4
        cases h4
        obtain ⟨v0, h8, h9⟩ := atI_hv h7 ho
        exact ix_list value slice pins s σ _ _ _ v u Q I rx ry ⟨p, vs, i, v0, rfl, rfl, SqL.of h6, h8, q v0 w (Gr.refl hw) h9⟩ hs
      · rename_i xs ej
        obtain ⟨p', h4, h5, vs, h6, h7⟩ := ht.at_ _ _ ej
        rw [h3] at h4
        cases h4
        obtain ⟨v0, h8, h9⟩ := atI_hv h7 ho
        exact ix_tup value slice pins s σ _ _ _ v u Q I rx ry ⟨p, vs, i, v0, rfl, rfl, .of h6, h8, q v0 w (Gr.refl hw) h9⟩ hs
      · rename_i ks xs ej
        exact dic ej rfl ho
      · cases ho
    · unfold ixXS at ho
      dsimp only at ho
      split at ho
      · rename_i ks xs ej
        exact dic ej rfl ho
      · cases ho
    · cases ho
theorem jx_ix (hX : XS X) (ha : PE X a (tX (zx X cl) W f)) (hb : PE X b (tX (zx X cl) W g)) (hs : PlainIx b := by exact fun _ _ => rfl) : PE X (.Subscript a b pos) (tX (zx X cl) W (xIx f g)) := by
  refine pe_w (pe_ix (ix_x (cl := cl) hX) ha hb hs) fun σ H Q ⟨env, w, r, e, kk, h, q⟩ => ?_
  subst e
  refine tX_bind kk h q.late fun x T1 v w1 h1 g1 k1 hx => ?_
  refine tX_bind k1 h1 (q.late.mono g1) fun y T2 u w2 h2 g2 k2 hy => ?_
  have key : ∀ (d : D), HvOk (zx X cl) w2 u (.pu d) → (ixA T2 x d).map (fun z => XRes.val z T2) = some r → rIX (zx X cl) v u w2.H Q := fun d hd h => by
    obtain ⟨z, h3, rfl⟩ := Option.map_eq_some_iff.mp h
    exact ⟨w2, T2, x, d, z, rfl, k2.wf, k2.tb, hx.mono g2.n g2.m, hd, h3, fun v' w3 g3 hv => q v' w3 ((g1.trans g2).trans (g3.gs k2.wf)) (k2.mono g3) hv⟩
  unfold ixK at h2
  split at h2
  · exact key _ hy h2
  · exact key _ hy h2
  · cases h2
/-! methods of lists that stand in the table -/
def lmK (m : List HV → List HV → Option (HV × List HV)) (x : HV) (xs : List HV) (T : Tb) : Option (XRes HV) := (obLst T x).bind fun q => (m q.2 xs).map fun r => .val r.1 (T.set q.1 (some (.lst r.2)))
def isLst (T : Tb) (x : HV) : Option Unit := (obLst T x).map fun _ => ()
def xLm (m : List HV → List HV → Option (HV × List HV)) (f : FX) (fa : FXA) : FX := fun env => bX (f env) fun x T1 => (isLst T1 x).bind fun _ => bX (fa ⟨env.s, T1⟩) fun xs T2 => lmK m x xs T2
/-- a method as its rule tells it -/
def LmOk (m : List HV → List HV → Option (HV × List HV)) (r : V → List V → Hp → VK → Prop) : Prop :=
  ∀ (Z : Zc) (w : Wd) (l : Addr) (ys as : List V) (yh ah : List HV) (res : HV) (new : List HV), HvsOk Z w ys yh → HvsOk Z w as ah → m yh ah = some (res, new) →
    ∃ rv nv, HvOk Z w rv res ∧ HvsOk Z w nv new ∧ ∀ (Q : VK) (H : Hp), H l = some (.lst ys) → Q rv (upd H l (.lst nv)) → r (.ref l) as H Q
theorem lm_end {Z : Zc} {s : List Sl} {σ : L2.St} {w w2 : Wd} {T2 : Tb} {Q : VK} {m : List HV → List HV → Option (HV × List HV)} {r : V → List V → Hp → VK → Prop} (hr : LmOk m r) {x : HV} {v : V} {xs : List HV} {vs : List V} {q : XRes HV}
    (h2 : lmK m x xs T2 = some q) (l : Fin Z W s σ w (PvX Z s σ w Q) q) (g : Gs w w2) (k2 : Wok Z ⟨s, T2⟩ σ w2) (hx : HvOk Z w2 v x) (hxs : HvsOk Z w2 vs xs) : r v vs w2.H Q := by
  obtain ⟨⟨j, yh⟩, h3, h4⟩ := Option.bind_eq_some_iff.mp h2
  obtain ⟨⟨res, new⟩, h5, rfl⟩ := Option.map_eq_some_iff.mp h4
  obtain ⟨rfl, ej⟩ := obLst_some h3
  obtain ⟨p, ys, rfl, h6, h7, h8, h9⟩ := ob_lst k2.tb hx ej
  obtain ⟨rv, nv, h10, h11, h12⟩ := hr Z w2 p ys vs yh xs res new h9 hxs h5
  obtain ⟨k3, g3⟩ := k2.tset (M := .lst new) (o := .lst nv) ej h6 h7 ⟨nv, upd_same, HvsOk.mono (w := w2) (w' := ⟨w2.N, w2.B, upd w2.H p (.lst nv), w2.m⟩) (.refl _) (List.prefix_refl _) h11⟩
  exact h12 Q w2.H h8 (l rv _ (g.trans g3) k3 (HvOk.mono (w := w2) (w' := ⟨w2.N, w2.B, upd w2.H p (.lst nv), w2.m⟩) (.refl _) (List.prefix_refl _) h10))
theorem isLst_ty {Z : Zc} {T : Tb} {w : Wd} (t : TbOk Z T w) {x : HV} {v : V} (hx : HvOk Z w v x) (h : isLst T x = some ()) : ∃ p vs, v = .ref p ∧ w.H p = some (.lst vs) := by
  obtain ⟨⟨j, yh⟩, h3, _⟩ := Option.map_eq_some_iff.mp h
  obtain ⟨rfl, ej⟩ := obLst_some h3
  obtain ⟨p, ys, rfl, h6, h7, h8, h9⟩ := ob_lst t hx ej
  exact ⟨p, ys, rfl, h8⟩
theorem jx_lm {m : List HV → List HV → Option (HV × List HV)} {r : V → List V → Hp → VK → Prop} {o : Expr} {name : Str} {id : String} {apos : Pos} (slot : Slot "list" name id) (ty : typeOf (.builtin id) = pure (.type "method_descriptor")) (hm : MtR X id r) (hr : LmOk m r) (ho : PE X o (tX (zx X cl) W f)) (ha : PA X (a :: es) (tXA (zx X cl) W fa))
    (hbase : attributeBase o name X.env (eval o X.env) = eval o X.env := by rfl) (hline : (apos.endLine == pos.line) = true := by rfl) (hs : starEach (a :: es) X.env = (false, eval a X.env) :: starEach es X.env := by rfl)
    (hfew : ((backTo pos (starEach (a :: es) X.env)).all (fun x => !x.1) && (backToKw pos (keywordEach [] X.env)).all (fun x => x.1.isSome) && decide ((a :: es).length + ([] : List Keyword).length + (if ([] : List Keyword).isEmpty then 0 else 1) < 30)) = true := by rfl) (hpl : (backTo pos (starEach es X.env)).any (·.1) = false := by rfl) :
    PE X (.Call (.Attribute o name apos) (a :: es) [] pos) (tX (zx X cl) W (xLm m f fa)) := by
  refine pe_w (pe_bm PySem.F.plainAttrs_list slot ty hm ho ha hbase hfew hline hs hpl) fun σ H Q ⟨env, w, q, e, kk, h, l⟩ => ?_
  subst e
  refine tX_bind kk h l.late fun x T1 v w1 h1 g1 k1 hx => ?_
  obtain ⟨u, hu, h1⟩ := Option.bind_eq_some_iff.mp h1
  obtain ⟨p, vs0, rfl, hp⟩ := isLst_ty k1.tb hx hu
  refine ⟨.inl ⟨rfl, _, SqL.of hp⟩, ?_⟩
  refine tXA_bind k1 h1 (l.late.mono g1) fun xs T2 vs w2 h2 g2 k2 hxs => ?_
  exact lm_end hr h2 l (g1.trans g2) k2 (hx.mono g2.n g2.m) hxs
end
def mApp (ys as : List HV) : Option (HV × List HV) := match as with | [a] => if ys.length ≤ lim then some (.pu .non, ys ++ [a]) else none | _ => none
noncomputable def mIns (ys as : List HV) : Option (HV × List HV) := match as with | [.pu (.int i), y] => cif (ys.length ≤ lim ∧ 0 ≤ i ∧ i < 4611686018427387904) (some (.pu .non, ys.take i.toNat ++ [y] ++ ys.drop i.toNat)) none | _ => none
theorem HvsOk.one {Z : Zc} {w : Wd} {vs : List V} {x : HV} (h : HvsOk Z w vs [x]) : ∃ v, vs = [v] ∧ HvOk Z w v x := by
  match vs, h with
  | [v], ⟨h, _⟩ => exact ⟨v, rfl, h⟩
theorem HvsOk.reverse {Z : Zc} {w : Wd} : ∀ {vs : List V} {xs : List HV}, HvsOk Z w vs xs → HvsOk Z w vs.reverse xs.reverse
  | [], [], _ => trivial
  | v :: vs, x :: xs, ⟨h, r⟩ => by
    rw [List.reverse_cons, List.reverse_cons]
    exact r.reverse.app ⟨h, trivial⟩
  | [], _ :: _, h => h.elim
  | _ :: _, [], h => h.elim
theorem HvsOk.take {Z : Zc} {w : Wd} : ∀ {vs : List V} {xs : List HV} (k : Nat), HvsOk Z w vs xs → HvsOk Z w (vs.take k) (xs.take k)
  | [], [], _, _ => by simp [HvsOk]
  | v :: vs, x :: xs, 0, ⟨h, r⟩ => trivial
  | v :: vs, x :: xs, k + 1, ⟨h, r⟩ => ⟨h, r.take k⟩
  | [], _ :: _, _, h => h.elim
  | _ :: _, [], _, h => h.elim
theorem HvsOk.drop {Z : Zc} {w : Wd} : ∀ {vs : List V} {xs : List HV} (k : Nat), HvsOk Z w vs xs → HvsOk Z w (vs.drop k) (xs.drop k)
  | [], [], _, _ => by simp [HvsOk]
  | v :: vs, x :: xs, 0, h => h
  | v :: vs, x :: xs, k + 1, ⟨h, r⟩ => r.drop k
  | [], _ :: _, _, h => h.elim
  | _ :: _, [], _, h => h.elim
theorem lm_app : LmOk mApp rAppend := by
  intro Z w l ys as yh ah res new hy ha hm
  unfold mApp at hm
  split at hm
  · split at hm
    · rename_i a hl
      cases hm
      obtain ⟨v, rfl, hv⟩ := ha.one
      exact ⟨.non, ys ++ [v], .non, hy.app ⟨hv, trivial⟩, fun Q H hH hQ => ⟨l, ys, v, rfl, rfl, hH, lim_lt (by rw [hy.length]; exact hl), hQ⟩⟩
    · cases hm
  · cases hm
end Vf
namespace Vf
open PySem L2
/-! ### statements that change the table and may raise -/
inductive OutX where | nx (e : Ev) | rt (x : HV) (T : Tb) | bk (e : Ev) | ct (e : Ev) | ex (c : Str) (ns : List Str) (xs : List HV) (e : Ev)
abbrev SX := Ev → Option OutX
def OutXOk (Z : Zc) (W : WX) (D : Ends) (w : Wd) : OutX → Prop
  | .nx e => ∀ σ' w', Gs w w' → Wok Z e σ' w' → D.nx σ' w'.H
  | .rt x T => ∀ v w', Gs w w' → HvOk Z w' v x → TbOk Z T w' → D.rt v w'.H
  | .bk e => ∀ σ' w', Gs w w' → Wok Z e σ' w' → D.bk σ' w'.H
  | .ct e => ∀ σ' w', Gs w w' → Wok Z e σ' w' → D.ct σ' w'.H
  | .ex c ns xs e => ∀ cls d σ' w', Gs w w' → Wok Z e σ' w' → ExOk Z w' cls d c ns xs → W cls d σ' w'.H
def tSX (Z : Zc) (W : WX) (f : SX) : TS := fun D σ H => ∃ env w out, w.H = H ∧ Wok Z env σ w ∧ f env = some out ∧ OutXOk Z W D w out
theorem OutXOk.mono {Z : Zc} {W : WX} {D : Ends} {w w' : Wd} (g : Gs w w') {out : OutX} (h : OutXOk Z W D w out) : OutXOk Z W D w' out := by
  cases out with
  | nx _ => exact fun σ' w2 g2 => h σ' w2 (g.trans g2)
  | rt _ _ => exact fun v w2 g2 => h v w2 (g.trans g2)
  | bk _ => exact fun σ' w2 g2 => h σ' w2 (g.trans g2)
  | ct _ => exact fun σ' w2 g2 => h σ' w2 (g.trans g2)
  | ex _ _ _ _ => exact fun cls d σ' w2 g2 => h cls d σ' w2 (g.trans g2)
/-- an expression's end, then what follows -/
def kS {α : Type} (s : List Sl) (k : α → Tb → Option OutX) : XRes α → Option OutX
  | .val x T => k x T
  | .exc c ns xs T => some (.ex c ns xs ⟨s, T⟩)
def bS {α : Type} (env : Ev) (o : Option (XRes α)) (k : α → Tb → Option OutX) : Option OutX := o.bind (kS env.s k)
section
variable {α : Type} {Z : Zc} {W : WX} {D : Ends} {σ : L2.St} {w w' : Wd} {env : Ev} {out : OutX}
theorem bS_fin {o : Option (XRes α)} {k : α → Tb → Option OutX} {P : α → Tb → Prop} (h : bS env o k = some out) (q : OutXOk Z W D w out) (hv : ∀ x T, k x T = some out → P x T) : ∃ r, o = some r ∧ Fin Z W env.s σ w P r := by
  obtain ⟨r, h1, h2⟩ := Option.bind_eq_some_iff.mp h
  cases r with
  | val x T => exact ⟨_, h1, hv x T h2⟩
  | exc c ns xs T =>
    cases h2
    exact ⟨_, h1, fun cls d w' g k e => q cls d σ w' g k e⟩
theorem tX_then {f : FX} {k : HV → Tb → Option OutX} {Q : VK} (kk : Wok Z env σ w) (h : bS env (f env) k = some out) (q : OutXOk Z W D w out)
    (hq : ∀ x T v w1, k x T = some out → Gs w w1 → Wok Z ⟨env.s, T⟩ σ w1 → HvOk Z w1 v x → Q v w1.H) : tX Z W f σ w.H Q := by
  obtain ⟨r, h1, h2⟩ := bS_fin (P := PvX Z env.s σ w Q) h q fun x T hk v w1 g k1 hx => hq x T v w1 hk g k1 hx
  exact ⟨env, w, r, rfl, kk, h1, h2⟩
theorem tXT_then {f : FXT} {k : Bool → Tb → Option OutX} {Q : Bool → Hp → Prop} (kk : Wok Z env σ w) (h : bS env (f env) k = some out) (q : OutXOk Z W D w out)
    (hq : ∀ x T w1, k x T = some out → Gs w w1 → Wok Z ⟨env.s, T⟩ σ w1 → Q x w1.H) : tXT Z W f σ w.H Q := by
  obtain ⟨r, h1, h2⟩ := bS_fin (P := PtX Z env.s σ w Q) h q fun x T hk w1 g k1 => hq x T w1 hk g k1
  exact ⟨env, w, r, rfl, kk, h1, h2⟩
end
def zNx : SX := fun env => some (.nx env)
def zThen (b : SX) : OutX → Option OutX | .nx e => b e | o => some o
def zSeq (a b : SX) : SX := fun env => (a env).bind (zThen b)
def liftO : Out → Option OutX
  | .nx e => some (.nx e) | .bk e => some (.bk e) | .ct e => some (.ct e) | .rth x T => some (.rt x T) | .rt _ => none
def zLift (f : FS) : SX := fun env => (f env).bind liftO
def setZ (i : Nat) (s : List Sl) (x : HV) (T : Tb) : Option OutX := (setHS i x ⟨s, T⟩).map .nx
def zSet (i : Nat) (f : FX) : SX := fun env => bS env (f env) (setZ i env.s)
def zRet (f : FX) : SX := fun env => bS env (f env) fun x T => some (.rt x T)
def zDo (f : FX) : SX := fun env => bS env (f env) fun _ T => some (.nx ⟨env.s, T⟩)
def zIf (c : FXT) (a b : SX) : SX := fun env => bS env (c env) fun k T => if k then a ⟨env.s, T⟩ else b ⟨env.s, T⟩
def stoZ (cs : List Str) (n : Str) (s : List Sl) (x y : HV) (T : Tb) : Option OutX := match y with
  | .ob k => match T[k]? with
    | some (some (.ins c fs xs)) => if c ∈ cs ∧ fs.length < 1000 then some (.nx ⟨s, T.set k (some (.ins c (putG n x fs xs).1 (putG n x fs xs).2))⟩) else none
    | _ => none
  | .pu _ => none
def zSto (cs : List Str) (n : Str) (o v : FX) : SX := fun env => bS env (v env) fun x T1 => bS env (o ⟨env.s, T1⟩) fun y T2 => stoZ cs n env.s x y T2
/-- a dict's keys and values behind d[k] = x -/
def dput {α : Type} : List Key → List α → Key → α → List Key × List α
  | k :: ks, y :: ys, q, x => if k = q then (k :: ks, x :: ys) else (k :: (dput ks ys q x).1, y :: (dput ks ys q x).2)
  | _, _, q, x => ([q], [x])
def obDic (T : Tb) (x : HV) : Option (Nat × List Key × List HV) := match x with
  | .ob k => match T[k]? with
    | some (some (.dic ks xs)) => some (k, ks, xs)
    | _ => none
  | .pu _ => none
def keyH : HV → Option Key | .pu d => keyD d | .ob _ => none
def putL (s : List Sl) (x y i : HV) (T : Tb) : Option OutX := (obLst T y).bind fun q => match i with
  | .pu (.int i) => (ixN q.2.length i).map fun j => .nx ⟨s, T.set q.1 (some (.lst (q.2.set j x)))⟩
  | _ => none
noncomputable def putD (s : List Sl) (x y i : HV) (T : Tb) : Option OutX := (obDic T y).bind fun q => (keyH i).bind fun k => cif (q.2.1.length ≤ lim ∧ q.2.1.Nodup) (some (.nx ⟨s, T.set q.1 (some (.dic (dput q.2.1 q.2.2 k x).1 (dput q.2.1 q.2.2 k x).2))⟩)) none
noncomputable def putZ (s : List Sl) (x y i : HV) (T : Tb) : Option OutX := match obDic T y with
  | some _ => putD s x y i T
  | none => putL s x y i T
noncomputable def zPut (o i v : FX) : SX := fun env => bS env (v env) fun x T1 => bS env (o ⟨env.s, T1⟩) fun y T2 => bS env (i ⟨env.s, T2⟩) fun j T3 => putZ env.s x y j T3
section
variable {X : Cx} {cl : Str → Option Addr} {W : WX} {a b c e o value i : Expr} {es : List Expr} {f g h : FX} {fa : FXA} {ct dt : FXT} {pos pos' : Pos} {A B : SX} {st : Stmt} {rest body orelse : List Stmt}
theorem jz_nil : PSs X [] (tSX (zx X cl) W zNx) := by
  refine pss_w pss_nil fun D σ H ⟨env, w, out, e, k, hr, q⟩ => ?_
  subst e
  cases hr
  exact q σ w (Gs.refl k.wf) k
theorem jz_cons (h1 : PS X st (tSX (zx X cl) W A)) (h2 : PSs X rest (tSX (zx X cl) W B)) : PSs X (st :: rest) (tSX (zx X cl) W (zSeq A B)) := by
  refine pss_w (pss_cons h1 h2) fun D σ H ⟨env, w, out, e, k, hr, q⟩ => ?_
  subst e
  obtain ⟨o, h3, h4⟩ := Option.bind_eq_some_iff.mp hr
  refine ⟨env, w, o, rfl, k, h3, ?_⟩
  cases o with
  | nx e' => exact fun σ' w' g' k' => ⟨e', w', out, rfl, k', h4, q.mono g'⟩
  | rt x T => cases h4; exact q
  | bk e' => cases h4; exact q
  | ct e' => cases h4; exact q
  | ex c ns xs e' => cases h4; exact q
theorem jz_one (h1 : PS X st (tSX (zx X cl) W A)) : PSs X [st] (tSX (zx X cl) W A) := by
  refine pss_w (jz_cons h1 jz_nil) fun D σ H ⟨env, w, out, e, k, hr, q⟩ => ⟨env, w, out, e, k, ?_, q⟩
  unfold zSeq
  rw [hr]
  cases out <;> rfl
theorem jz_set (i : Nat) {x : Str} {p' : Pos} (hX : XS X) (he : PE X e (tX (zx X cl) W f)) (hi : X.N[i]? = some x := by rfl) (hx : Loc X.env.scope x := by first | exact Or.inl rfl | exact Or.inr rfl) (hs : swapsWith e (some (.Name x p')) pos.line X.env = pure false := by rfl)
    (hf : X.fn x = true ∨ X.env.scope.names.lookup x = some .local := by first | exact .inl rfl | exact .inr rfl) : PS X (.Assign [.Name x p'] e pos) (tSX (zx X cl) W (zSet i f)) := by
  refine ps_w (ps_set hX.nd hi hx he hs hf) fun D σ H ⟨env, w, out, e, k, hr, q⟩ => ?_
  subst e
  refine tX_then k hr q fun x T v w1 h1 g1 k1 hx => ?_
  obtain ⟨e', h2, rfl⟩ := Option.map_eq_some_iff.mp h1
  exact q _ w1 g1 (setHS_ok k1 h2 hx)
theorem jz_ret (he : PE X e (tX (zx X cl) W f)) : PS X (.Return (some e) pos) (tSX (zx X cl) W (zRet f)) := by
  refine ps_w (ps_ret he) fun D σ H ⟨env, w, out, e, k, hr, q⟩ => ?_
  subst e
  refine tX_then k hr q fun x T v w1 h1 g1 k1 hx => ?_
  cases h1
  exact q v w1 g1 hx k1.tb
theorem jz_do (he : PE X e (tX (zx X cl) W f)) (hs : swapsWith e none pos.line X.env = pure false := by rfl) : PS X (.Expr e pos) (tSX (zx X cl) W (zDo f)) := by
  refine ps_w (ps_expr he hs) fun D σ H ⟨env, w, out, e, k, hr, q⟩ => ?_
  subst e
  refine tX_then k hr q fun x T v w1 h1 g1 k1 hx => ?_
  cases h1
  exact q σ w1 g1 k1
theorem jz_if (hc : PT X c (tXT (zx X cl) W ct)) (ha : PSs X body (tSX (zx X cl) W A)) (hb : PSs X orelse (tSX (zx X cl) W B)) : PS X (.If c body orelse pos) (tSX (zx X cl) W (zIf ct A B)) := by
  refine ps_w (ps_if hc ha hb) fun D σ H ⟨env, w, out, e, k, hr, q⟩ => ?_
  subst e
  refine tXT_then k hr q fun x T w1 h1 g1 k1 => ?_
  cases x with
  | true => exact ⟨_, w1, out, rfl, k1, h1, q.mono g1⟩
  | false => exact ⟨_, w1, out, rfl, k1, h1, q.mono g1⟩
end
/-! loops -/
def forZ (A : SX) (s : TD → Ev → Option Ev) : List TD → Ev → Option OutX
  | [], env => some (.nx env)
  | r :: rs, env => (s r env).bind fun e => (A e).bind fun o => match o with
    | .nx e' => forZ A s rs e'
    | .ct e' => forZ A s rs e'
    | .bk e' => some (.nx e')
    | .rt x T => some (.rt x T)
    | .ex c ns xs e => some (.ex c ns xs e)
def zFor (fi : FI) (s : TD → Ev → Option Ev) (A : SX) : SX := fun env => (fi env).bind fun items => forZ A s items env
section
variable {X : Cx} {cl : Str → Option Addr} {W : WX} {a b c e o value i tg iter : Expr} {pos pos' : Pos} {A B : SX} {st : Stmt} {rest body orelse : List Stmt} {ct : FXT} {fi : FI} {is : List Nat} {s : TD → Ev → Option Ev}
theorem jz_for (hp : PassesOwn (model X.prog X.w) X.A X.env X.xe) (hX : XS X) (hi : PI X tg iter (tI Gs (zx X cl) fi)) (hg : PG X tg (tG (zx X cl) is s)) (hb : PSs X body (tSX (zx X cl) W A)) (hs : ∀ x, foldedSetIterable iter X.env x = pure x := by intro _; rfl) :
    PS X (.For tg iter body [] pos) (tSX (zx X cl) W (zFor fi s A)) := by
  refine ps_w (ps_for hp hX.calm hi hg hb hs) fun D σ H ⟨env, w, out, e, k, hr, q⟩ => ?_
  subst e
  obtain ⟨items, h3, h4⟩ := Option.bind_eq_some_iff.mp hr
  refine ⟨env, w, items, rfl, k, h3, fun J w1 g1 wk => ?_⟩
  refine ⟨fun i m σ' H' => ∃ env' w', w'.H = H' ∧ Wok (zx X cl) env' σ' w' ∧ Gs w1 w' ∧ m = items.length - i ∧ i ≤ items.length ∧ forZ A s (items.drop i) env' = some out, ⟨items.length, env, w1, rfl, k.mono g1, Gs.refl g1.wf, rfl, Nat.zero_le _, h4⟩, ?_⟩
  rintro i m σ' H' ⟨env', w', rfl, k', gs, rfl, hi, hf⟩
  by_cases hlt : i < items.length
  · obtain ⟨r, hr⟩ : ∃ r, items[i]? = some r := ⟨items[i], List.getElem?_eq_getElem hlt⟩
    have hd : items.drop i = r :: items.drop (i + 1) := by
      rw [List.drop_eq_getElem_cons hlt]
      rw [List.getElem?_eq_getElem hlt] at hr
      rw [Option.some.inj hr]
    rw [hd] at hf
    obtain ⟨e1, h5, h6⟩ := Option.bind_eq_some_iff.mp hf
    obtain ⟨o, h7, h8⟩ := Option.bind_eq_some_iff.mp h6
    obtain ⟨go, yl⟩ := wk.go i r w' gs hr
    refine .inr ⟨go, fun σ2 H2 => ∃ m', m' < items.length - i ∧ ∃ env' w', w'.H = H2 ∧ Wok (zx X cl) env' σ2 w' ∧ Gs w1 w' ∧ m' = items.length - (i + 1) ∧ i + 1 ≤ items.length ∧ forZ A s (items.drop (i + 1)) env' = some out, fun _ _ z => z, fun x H2 hy => ?_⟩
    obtain ⟨w2, g2, rfl, r2⟩ := yl x H2 hy
    refine ⟨env', w2, r, e1, rfl, k'.mono g2, r2, h5, fun σ3 w3 g3 k3 _ _ => ⟨e1, w3, o, rfl, k3, h7, ?_⟩⟩
    have g23 : Gs w' w3 := (g2.trans g3).gs k'.wf
    cases o with
    | nx e' => exact fun σ4 w4 g4 k4 => ⟨_, by omega, e', w4, rfl, k4, (gs.trans g23).trans g4, rfl, hlt, h8⟩
    | ct e' => exact fun σ4 w4 g4 k4 => ⟨_, by omega, e', w4, rfl, k4, (gs.trans g23).trans g4, rfl, hlt, h8⟩
    | bk e' =>
      cases h8
      exact fun σ4 w4 g4 k4 => q σ4 w4 ((((g1.gs k.wf).trans gs).trans g23).trans g4) k4
    | rt x T =>
      cases h8
      exact fun v w4 g4 r4 t4 => q v w4 ((((g1.gs k.wf).trans gs).trans g23).trans g4) r4 t4
    | ex c ns xs e =>
      cases h8
      exact fun cls d σ4 w4 g4 k4 e4 => q cls d σ4 w4 ((((g1.gs k.wf).trans gs).trans g23).trans g4) k4 e4
  · have e : i = items.length := by omega
    subst e
    refine .inl ⟨wk.stop w' gs, ?_⟩
    rw [List.drop_length] at hf
    cases hf
    exact q σ' w' ((g1.gs k.wf).trans gs) k'
end
/-! defs -/
def finX (o : OutX) : Option (XRes HV) := match o with
  | .rt x T => some (.val x T)
  | .nx e => some (.val (.pu .non) e.t)
  | .ex c ns xs e => some (.exc c ns xs e.t)
  | _ => none
section
variable {P : Program} {w : World} {K : PySem.W.Frag} {mg : Str → Option Value} {base : Heap} {cl : Str → Option Addr}
theorem ok_defX {x qual : Str} {st : Stmt} {f : Addr} {fd : FuncData} {N ps : List Str} {k : Nat} {g : List HV → Tb → Option (XRes HV)} {B : SX} (F : Fun K x qual st f fd) (S : FnScope N ps (defScope st)) (har : ∀ xs T r, g xs T = some r → xs.length = ps.length)
    (hb : ∀ (cdv : Value) (A : Around) (outer : List Env) (s : Shared) (H : Hp) (E : XK), Room k (A.deeper (PyProof.Rows.envOfC qual (defScope st) s.heap.objs.size f cdv)) → XS (cxOf (L2.CX P w) P w K mg base N qual (defScope st) f cdv A outer s H E) →
      Takes (cxOf (L2.CX P w) P w K mg base N qual (defScope st) f cdv A outer s H E) (fun cls d _ H => E cls d H) → PassesOwn (model P w) (cxOf (L2.CX P w) P w K mg base N qual (defScope st) f cdv A outer s H E).A (cxOf (L2.CX P w) P w K mg base N qual (defScope st) f cdv A outer s H E).env (cxOf (L2.CX P w) P w K mg base N qual (defScope st) f cdv A outer s H E).xe →
      PSs (cxOf (L2.CX P w) P w K mg base N qual (defScope st) f cdv A outer s H E) (defBody st) (tSX ⟨K, cl⟩ (fun cls d _ H => E cls d H) B))
    (hsem : ∀ xs T r, g xs T = some r → (B (env0H N.length xs T)).bind finX = some r) : FnOk P w K mg base (L2.CX P w) (k + 1) f fd ps (spX ⟨K, cl⟩ g) := by
  refine F.okX S (fun vs H Q E h => ?_) (fun cdv A outer s H vs Q E hr h => ?_)
  · obtain ⟨w0, xs, T, r, _, _, _, h1, h2, _⟩ := h
    rw [h1.length, har _ _ _ h2]
  · obtain ⟨w0, xs, T, r, rfl, hw, ht, h1, h2, q1, q2⟩ := h
    have hX : XS (cxOf (L2.CX P w) P w K mg base N qual (defScope st) f cdv A outer s w0.H E) := ⟨rfl, S.nd, by have := hr.un; show (A.deeper _).units + 65 < cLine; omega⟩
    refine ⟨_, hb cdv A outer s w0.H E hr hX (takes_of rfl rfl rfl rfl) (passes_of rfl), ?_⟩
    obtain ⟨out, e1, e2⟩ := Option.bind_eq_some_iff.mp (hsem xs T _ h2)
    have hle : xs.length ≤ N.length := by
      have := congrArg List.length S.pre
      rw [List.length_take] at this
      have := har _ _ _ h2
      omega
    refine ⟨env0H N.length xs T, w0, out, rfl, wok_startH hw ht h1 hle, e1, ?_⟩
    unfold finX at e2
    split at e2
    · cases e2
      exact fun v w' gs hv tb => q1 _ _ rfl v w' gs hv tb
    · cases e2
      exact fun σ' w' gs k' => q1 _ _ rfl .non w' gs .non k'.tb
    · cases e2
      exact fun cls d σ' w' gs k' ex => q2 _ _ _ _ rfl cls d w' gs k'.tb ex
    · cases e2
end
end Vf
namespace Vf
open PySem L2
/-! ### methods, new instances; both may raise -/
def xMeth (c m : Str) (gg : List HV → Tb → Option (XRes HV)) (o : FX) (fa : FXA) : FX := fun env => bX (o env) fun x T1 => (insOf T1 x).bind fun q => if q.1 = c ∧ m ∉ q.2 then bX (fa ⟨env.s, T1⟩) fun xs T2 => gg (x :: xs) T2 else none
/-- behind __init__: the new object -/
def mkR (n : Nat) : XRes HV → Option (XRes HV)
  | .val (.pu .non) T => some (.val (.ob n) T)
  | .val _ _ => none
  | .exc c ns xs T => some (.exc c ns xs T)
def mkX (c : Str) (gi : List HV → Tb → Option (XRes HV)) (xs : List HV) (T : Tb) : Option (XRes HV) := (gi (.ob T.length :: xs) (T ++ [some (.ins c [] [])])).bind (mkR T.length)
def xMake (c : Str) (gi : List HV → Tb → Option (XRes HV)) (fa : FXA) : FX := fun env => bX (fa env) (mkX c gi)
end Vf
namespace Vf
open PySem L2
/-! ### walks over what stands in the table -/
def srcM (T : Tb) : HV → Option Mob
  | .pu (.lst ds) => some (.lst (ds.map .pu))
  | .pu (.scr ds) => some (.lst (ds.map .pu))
  | .pu (.tup ds) => some (.tup (ds.map .pu))
  | .pu _ => none
  | .ob k => match T[k]? with
    | some (some (.lst xs)) => some (.lst xs)
    | some (some (.tup xs)) => some (.tup xs)
    | _ => none
def mobI : Mob → List HV
  | .lst xs => xs | .tup xs => xs | .ins _ _ xs => xs | .dic _ xs => xs
theorem src_lst {Z : Zc} {T : Tb} {w : Wd} (hw : Wf w) (t : TbOk Z T w) {v : V} {x : HV} {xs : List HV} (hx : HvOk Z w v x) (h : srcM T x = some (.lst xs)) : ∃ p vs, v = .ref p ∧ SqL Z.K w.H p vs ∧ HvsOk Z w vs xs := by
  cases x with
  | pu d =>
    unfold srcM at h
    split at h
    · rename_i e
      cases e
      cases h
      obtain ⟨p, vs, e1, e2, e3⟩ := RV.lst (t := .N) hw hx
      exact ⟨p, vs, e1, SqL.of e2, hvs_pu e3⟩
    · rename_i e
      cases e
      cases h
      obtain ⟨p, vs, e1, e2, e3⟩ := RV.scr (t := .N) hw hx
      exact ⟨p, vs, e1, e2, hvs_pu e3⟩
    · cases h
    · cases h
    · rename_i e
      cases e
  | ob k =>
    unfold srcM at h
    dsimp only at h
    split at h
    · rename_i ys ej
      cases h
      obtain ⟨a, vs, e1, e2, e3, e4, e5⟩ := ob_lst t hx ej
      exact ⟨a, vs, e1, SqL.of e4, e5⟩
    · cases h
    · cases h
theorem src_tup {Z : Zc} {T : Tb} {w : Wd} (hw : Wf w) (t : TbOk Z T w) {v : V} {x : HV} {xs : List HV} (hx : HvOk Z w v x) (h : srcM T x = some (.tup xs)) : ∃ p vs, v = .ref p ∧ SqT Z.K w.H p vs ∧ HvsOk Z w vs xs := by
  cases x with
  | pu d =>
    unfold srcM at h
    split at h
    · cases h
    · cases h
    · rename_i e
      cases e
      cases h
      obtain ⟨p, vs, e1, e2, e3⟩ := RV.tup (t := .N) hw hx
      exact ⟨p, vs, e1, e2, hvs_pu e3⟩
    · cases h
    · rename_i e
      cases e
  | ob k =>
    unfold srcM at h
    dsimp only at h
    split at h
    · cases h
    · rename_i ys ej
      cases h
      obtain ⟨a, rfl, h1⟩ := hx
      obtain ⟨a', h2, h3, vs, h4, h5⟩ := t.at_ k _ ej
      rw [h1] at h2
      cases h2
      exact ⟨a, vs, rfl, .of h4, h5⟩
    · cases h
theorem srcM_kind {T : Tb} {x : HV} {M : Mob} (h : srcM T x = some M) : (∃ xs, M = .lst xs) ∨ ∃ xs, M = .tup xs := by
  unfold srcM at h
  split at h
  · cases h; exact .inl ⟨_, rfl⟩
  · cases h; exact .inl ⟨_, rfl⟩
  · cases h; exact .inr ⟨_, rfl⟩
  · cases h
  · split at h
    · cases h; exact .inl ⟨_, rfl⟩
    · cases h; exact .inr ⟨_, rfl⟩
    · cases h
section
variable {X : Cx} {cl : Str → Option Addr} {W : WX} {a b c e o tg : Expr} {es : List Expr} {f g h : FX} {pos : Pos} {is js : List Nat} {s : HV → Ev → Option Ev} {l : List HV → Ev → Option Ev}
/-! targets -/
def setXCons (s : HV → Ev → Option Ev) (l : List HV → Ev → Option Ev) : List HV → Ev → Option Ev := fun xs env => match xs with | x :: xs => (s x env).bind fun e => l xs e | _ => none
def setXTup (n : Nat) (l : List HV → Ev → Option Ev) : HV → Ev → Option Ev := fun x env => (srcM env.t x).bind fun M => if (mobI M).length = n then l (mobI M) env else none
end
noncomputable def forH (A : SX) (s : HV → Ev → Option Ev) (x : HV) (M : Mob) : List HV → Ev → Option OutX
  | [], env => cif (srcM env.t x = some M) (some (.nx env)) none
  | y :: ys, env => cif (srcM env.t x = some M) ((s y env).bind fun e => (A e).bind fun o => match o with
    | .nx e' => forH A s x M ys e'
    | .ct e' => forH A s x M ys e'
    | .bk e' => some (.nx e')
    | .rt x T => some (.rt x T)
    | .ex c ns xs e => some (.ex c ns xs e)) none
noncomputable def forHK (A : SX) (s : HV → Ev → Option Ev) (sl : List Sl) (x : HV) (T : Tb) : Option OutX := (srcM T x).bind fun M => forH A s x M (mobI M) ⟨sl, T⟩
noncomputable def zForH (f : FX) (s : HV → Ev → Option Ev) (A : SX) : SX := fun env => bS env (f env) (forHK A s env.s)
theorem cif_get {α : Type} {p : Prop} {a : Option α} {b : α} (h : cif p a none = some b) : p ∧ a = some b := by
  unfold cif at h
  split at h
  · exact ⟨by assumption, h⟩
  · cases h
end Vf
namespace Vf
open PySem L2
/-! ### comprehensions whose items may be objects of the table -/
def W0 : WX := fun _ _ _ _ => False
def noOwn (s : List Sl) : Prop := ∀ ds, Sl.own ds ∉ s
def ownFree : List Sl → Bool
  | [] => true
  | .own _ :: _ => false
  | _ :: r => ownFree r
theorem ownFree_no : ∀ {s : List Sl}, ownFree s = true → noOwn s
  | [], _ => fun ds h => by cases h
  | .un :: r, h => fun ds z => (List.mem_cons.mp z).elim (fun e => nomatch e) (ownFree_no (s := r) h ds)
  | .val _ _ :: r, h => fun ds z => (List.mem_cons.mp z).elim (fun e => nomatch e) (ownFree_no (s := r) h ds)
  | .han _ :: r, h => fun ds z => (List.mem_cons.mp z).elim (fun e => nomatch e) (ownFree_no (s := r) h ds)
  | .own _ :: r, h => nomatch h
theorem wok_slots {Z : Zc} {s : List Sl} {T T' : Tb} {σ : L2.St} {w w' : Wd} (k : Wok Z ⟨s, T⟩ σ w) (no : noOwn s) (g : Gs w w') (tb : TbOk Z T' w') : Wok Z ⟨s, T'⟩ σ w' :=
  ⟨g.wf, k.len, fun i sl e => by
    obtain ⟨o, h1, h2⟩ := k.sl i sl e
    refine ⟨o, h1, ?_⟩
    cases sl with
    | un => exact trivial
    | val t d =>
      obtain ⟨v, e1, e2⟩ := h2
      exact ⟨v, e1, e2.imp (fun ⟨x, y⟩ => ⟨x, Rp.mono g.n y⟩) fun ⟨x, y⟩ => ⟨x, Rp.mono g.b y⟩⟩
    | han n =>
      obtain ⟨a, e1, e2⟩ := h2
      refine ⟨a, e1, ?_⟩
      obtain ⟨l, hl⟩ := g.m
      rw [← hl, List.getElem?_append_left (List.getElem?_eq_some_iff.mp e2).1]
      exact e2
    | own ds => exact (no ds (List.mem_of_getElem? e)).elim,
  fun i j ds es p hne e1 e2 => (no ds (List.mem_of_getElem? e1)).elim, tb⟩
/-- D is lent: nobody changes it meanwhile -/
def lend (w : Wd) (D : Addr) (o : HO) : Wd := ⟨w.N, upd w.B D o, w.H, w.m⟩
theorem lend_wf {w : Wd} (hw : Wf w) {D : Addr} {o : HO} (h : w.H D = some o) (hb : w.B D = none) : Wf (lend w D o) := by
  refine ⟨?_, fun a u e => ?_⟩
  · exact same_up1 hw.nb (hw.nb.free hb)
  · have e : upd w.B D o a = some u := e
    by_cases q : a = D
    · subst q
      rw [upd_same] at e
      show w.H _ = _
      rw [h]
      exact e
    · rw [upd_ne q] at e
      exact hw.bh _ _ e
theorem lend_gs {w : Wd} (hw : Wf w) {D : Addr} {o : HO} (h : w.H D = some o) (hb : w.B D = none) : Gs w (lend w D o) :=
  ⟨lend_wf hw h hb, .refl _, same_up hb, fun _ q => .inl q, List.prefix_refl _, fun _ q => .inl q⟩
theorem lend_tb {Z : Zc} {T : Tb} {w : Wd} (t : TbOk Z T w) {D : Addr} {o : HO} (hm : D ∉ w.m) : TbOk Z T (lend w D o) :=
  ⟨t.len, t.nd, t.hh, fun n M e => by
    obtain ⟨a, h1, h2, h3⟩ := t.at_ n M e
    refine ⟨a, h1, ?_, MobOk.mono (w := w) (w' := lend w D o) (.refl _) (List.prefix_refl _) (fun _ q => q) h3⟩
    show upd w.B D o a = none
    rw [upd_ne (fun q => hm (by rw [← q]; exact List.mem_of_getElem? h1))]
    exact h2⟩
/-- D is given back, with other items -/
def back (w4 : Wd) (D : Addr) (o : HO) : Wd := ⟨w4.N, fun x => if x = D then none else w4.B x, upd w4.H D o, w4.m⟩
theorem lend_back {Z : Zc} {T : Tb} {w w4 : Wd} {D : Addr} {o o' : HO} (hw : Wf w) (h : w.H D = some o) (hb : w.B D = none) (hm : D ∉ w.m) (g : Gs (lend w D o) w4) (t : TbOk Z T w4) :
    w4.H D = some o ∧ D ∉ w4.m ∧ (back w4 D o').B D = none ∧ Gs w (back w4 D o') ∧ TbOk Z T (back w4 D o') := by
  have hbl : (lend w D o).B D = some o := upd_same
  have hb4 : w4.B D = some o := g.b _ _ hbl
  have hm4 : D ∉ w4.m := fun z => (g.mf D z).elim hm fun q => by rw [hbl] at q; cases q
  have hn4 : w4.N D = none := by
    cases q : w4.N D with
    | none => rfl
    | some u =>
      rcases g.fn D (by rw [q]; exact fun z => nomatch z) with z | z
      · exact (z (hw.nb.free hb)).elim
      · rw [hbl] at z; cases z
  have nb : Same w4.N (back w4 D o').B := fun a u e => by
    have : a ≠ D := fun q => by subst q; rw [hn4] at e; cases e
    show (if a = D then none else w4.B a) = _
    rw [if_neg this]
    exact g.wf.nb _ _ e
  have bh : Same (back w4 D o').B (back w4 D o').H := fun a u e => by
    have e : (if a = D then none else w4.B a) = some u := e
    by_cases q : a = D
    · rw [if_pos q] at e; cases e
    · rw [if_neg q] at e
      show upd w4.H D o' a = _
      rw [upd_ne q]
      exact g.wf.bh _ _ e
  refine ⟨g.wf.bh _ _ hb4, hm4, if_pos rfl, ⟨⟨nb, bh⟩, g.n, fun a u e => ?_, fun a q => ?_, g.m, fun a q => ?_⟩, ⟨t.len, t.nd, fun a ha => ?_, fun n M e => ?_⟩⟩
  · have : a ≠ D := fun q => by subst q; rw [hb] at e; cases e
    show (if a = D then none else w4.B a) = _
    rw [if_neg this]
    refine g.b _ _ ?_
    show upd w.B D o a = _
    rw [upd_ne this]
    exact e
  · refine (g.fn a q).imp id fun z => ?_
    have z : upd w.B D o a = none := z
    by_cases q : a = D
    · subst q; exact hb
    · rw [upd_ne q] at z; exact z
  · refine (g.mf a q).imp id fun z => ?_
    have z : upd w.B D o a = none := z
    by_cases q : a = D
    · subst q; exact hb
    · rw [upd_ne q] at z; exact z
  · show upd w4.H D o' a ≠ none
    rw [upd_ne (fun q => hm4 (by rw [← q]; exact ha))]
    exact t.hh a ha
  · obtain ⟨a, h1, h2, h3⟩ := t.at_ n M e
    have hne : a ≠ D := fun q => hm4 (by rw [← q]; exact List.mem_of_getElem? h1)
    refine ⟨a, h1, ?_, MobOk.mono (w := w4) (w' := back w4 D o') (.refl _) (List.prefix_refl _) (fun u q => ?_) h3⟩
    · show (if a = D then none else w4.B a) = none
      rw [if_neg hne]
      exact h2
    · show upd w4.H D o' a = _
      rw [upd_ne hne]
      exact q
/-- a list that is nobody's yet enters the table -/
theorem enter {Z : Zc} {s : List Sl} {T : Tb} {σ : L2.St} {w : Wd} (k : Wok Z ⟨s, T⟩ σ w) (no : noOwn s) {D : Addr} {acc : List V} {hacc : List HV} (hA : w.H D = some (.lst acc)) (hB : w.B D = none) (hm : D ∉ w.m) (hR : HvsOk Z w acc hacc) :
    Wok Z ⟨s, T ++ [some (.lst hacc)]⟩ σ ⟨w.N, w.B, w.H, w.m ++ [D]⟩ ∧ Gs w ⟨w.N, w.B, w.H, w.m ++ [D]⟩ := by
  have px : w.m <+: w.m ++ [D] := List.prefix_append _ _
  have wf : Wf ⟨w.N, w.B, w.H, w.m ++ [D]⟩ := ⟨k.wf.nb, k.wf.bh⟩
  have g : Gs w ⟨w.N, w.B, w.H, w.m ++ [D]⟩ := ⟨wf, .refl _, .refl _, fun _ q => .inl q, px, fun a q => (List.mem_append.mp q).imp id fun z => by rw [List.mem_singleton.mp z]; exact hB⟩
  refine ⟨wok_slots k no g ⟨by rw [List.length_append]; show T.length + 1 = (w.m ++ [D]).length; rw [List.length_append, k.tb.len]; rfl, ?_, fun a ha => ?_, fun n M e => ?_⟩, g⟩
  · show (w.m ++ [D]).Nodup
    rw [List.nodup_append]
    exact ⟨k.tb.nd, by simp, fun x hx y hy e => by rw [List.mem_singleton.mp hy] at e; subst e; exact hm hx⟩
  · rcases List.mem_append.mp ha with z | z
    · exact k.tb.hh a z
    · rw [List.mem_singleton.mp z]
      show w.H D ≠ none
      rw [hA]
      exact fun z => nomatch z
  · have hlen : T.length = w.m.length := k.tb.len
    by_cases hj : n < T.length
    · rw [List.getElem?_append_left hj] at e
      obtain ⟨a, h1, h2, h3⟩ := k.tb.at_ n M e
      exact ⟨a, by show (w.m ++ [D])[n]? = _; rw [List.getElem?_append_left (List.getElem?_eq_some_iff.mp h1).1]; exact h1, h2, MobOk.mono (w := w) (w' := ⟨w.N, w.B, w.H, w.m ++ [D]⟩) (.refl _) px (fun _ q => q) h3⟩
    · rw [List.getElem?_append_right (by omega)] at e
      have h0 : n - T.length = 0 := by
        have := (List.getElem?_eq_some_iff.mp e).1
        simp at this
        omega
      rw [h0] at e
      cases e
      exact ⟨D, by show (w.m ++ [D])[n]? = _; rw [List.getElem?_append_right (by omega), ← hlen, h0]; rfl, hB, acc, hA, HvsOk.mono (w := w) (w' := ⟨w.N, w.B, w.H, w.m ++ [D]⟩) (.refl _) px hR⟩
def valX {α : Type} : Option (XRes α) → Option (α × Tb)
  | some (.val x T) => some (x, T)
  | _ => none
theorem valX_some {α : Type} {o : Option (XRes α)} {x : α} {T : Tb} (h : valX o = some (x, T)) : o = some (.val x T) := by
  unfold valX at h
  split at h
  · cases h; rfl
  · cases h
noncomputable def lcX (ct : FXT) (fe : FX) (s : HV → Ev → Option Ev) (sl : List Sl) (x : HV) (M : Mob) : List HV → Tb → Option (List HV × Tb)
  | [], T => cif (srcM T x = some M) (some ([], T)) none
  | y :: ys, T => cif (srcM T x = some M) ((s y ⟨sl, T⟩).bind fun e => (valX (ct e)).bind fun k => if k.1 then (valX (fe ⟨e.s, k.2⟩)).bind fun v => (lcX ct fe s sl x M ys v.2).map fun r => (v.1 :: r.1, r.2) else lcX ct fe s sl x M ys k.2) none
noncomputable def lcXK (ct : FXT) (fe : FX) (s : HV → Ev → Option Ev) (sl : List Sl) (x : HV) (T : Tb) : Option (XRes HV) := (srcM T x).bind fun M => if (mobI M).length ≤ lim then (lcX ct fe s sl x M (mobI M) T).map fun r => .val (.ob r.2.length) (r.2 ++ [some (.lst r.1)]) else none
/-- [fe for s in f if ct]: a new object of the table -/
noncomputable def xLc (f : FX) (s : HV → Ev → Option Ev) (ct : FXT) (fe : FX) (vs : List Nat) : FX := fun env => if ownFree env.s then bX (f env) fun x T => lcXK ct fe s (wipeE ⟨env.s, T⟩ vs).s x T else none
theorem wipeE_t (env : Ev) : ∀ vs, (wipeE env vs).t = env.t
  | [] => rfl
  | v :: vs => wipeE_t env vs
theorem own_wipe {s : List Sl} {T : Tb} (h : noOwn s) : ∀ vs, noOwn (wipeE ⟨s, T⟩ vs).s
  | [] => h
  | v :: vs => fun ds z => by
    have ih := own_wipe (T := T) h vs
    have z : Sl.own ds ∈ ((wipeE ⟨s, T⟩ vs).s).set v .un := z
    rcases List.mem_or_eq_of_mem_set z with q | q
    · exact ih ds q
    · cases q
section
variable {X : Cx} {cl : Str → Option Addr} {W : WX} {a b c e o tg iter elt : Expr} {es ifs : List Expr} {f g h : FX} {pos : Pos} {is : List Nat} {s : HV → Ev → Option Ev} {ct : FXT} {scope : Scope}
theorem jxts_nil {X : Cx} : PTs X [] (tXT (zx X cl) W0 (fun env => some (.val true env.t))) := by
  refine ⟨fun pins s σ H Q I ⟨env, w, r, e, k, hr, q⟩ => pts_nil.run pins s σ H Q I ?_⟩
  subst e
  cases hr
  exact q w (Gs.refl k.wf) k
end
end Vf
namespace Vf
open PySem L2
/-! ### isinstance, list(..), tuple(..), len, keywords -/
def isi2D (d : D) (T1 T2 : String) : Option Bool := (isiD d T1).bind fun a => (isiD d T2).map fun b => a || b
def sIsi2 (T1 T2 : String) (f : FE) : FE := fun env => (f env).bind fun x => (isi2D x.2 T1 T2).map fun k => (.N, .bl k)
def isiX (T : String) (x : HV) (Tb0 : Tb) : Option (XRes HV) := (tdX Tb0 x).bind fun r => (isiD r.2 T).map fun k => .val (.pu (.bl k)) Tb0
def xIsi (T : String) (f : FX) : FX := fun env => bX (f env) (isiX T)
theorem isiD_kit {K : PySem.W.Frag} {d : D} {T : String} {b : Bool} (h : isiD d T = some b) : (∀ c fs ds, d ≠ .ins c fs ds) ∧ PySem.W.kitOne K (.type (tyOf d)) (.type T) = some b := by
  unfold isiD at h
  split at h
  · cases h
  · rename_i hne
    exact ⟨fun c fs ds e => hne _ _ _ e, kit_ty h⟩
def listK (x : HV) (T : Tb) : Option (XRes HV) := (srcM T x).map fun M => .val (.ob T.length) (T ++ [some (.lst (mobI M))])
/-- list(e): a new object -/
def xList (f : FX) : FX := fun env => bX (f env) listK
def tupOfK (x : HV) (T : Tb) : Option (XRes HV) := (srcM T x).bind fun M => match M with
  | .lst xs => (match pures xs with
    | some ds => some (.val (.pu (.tup ds)) T)
    | none => some (.val (.ob T.length) (T ++ [some (.tup xs)])))
  | .tup xs => some (.val x T)
  | _ => none
def xTupOf (f : FX) : FX := fun env => bX (f env) tupOfK
def lenK (x : HV) (T : Tb) : Option (XRes HV) := match x with
  | .pu d => (lenB [(.N, d)]).bind fun r => resX r T
  | .ob k => match T[k]? with
    | some (some (.dic ks _)) => some (.val (.pu (.int ks.length)) T)
    | _ => (srcM T (.ob k)).map fun M => .val (.pu (.int (mobI M).length)) T
def xLen (f : FX) : FX := fun env => bX (f env) lenK
section
variable {X : Cx} {cl : Str → Option Addr} {W : WX} {a b c e o : Expr} {es : List Expr} {f g h : FX} {fa : FXA} {pos apos : Pos} {kws : List Keyword} {gg : List HV → Tb → Option (XRes HV)} {ps ks : List Str} {k j : Nat} {π : List Nat}
theorem je_isi2 {f : FE} {T1 T2 : String} {t1 t2 : Str} {p q1 q2 qt : Pos} {x1 : Nat} (ha : PE X a (tE (zx X cl) f)) (mi : X.mg "isinstance" = none) (m1 : X.mg t1 = none) (m2 : X.mg t2 = none) (hT1 : bootBuiltins t1 = some (.type T1)) (hT2 : bootBuiltins t2 = some (.type T2)) (hgi : Gl X "isinstance" := by rfl) (hg1 : Gl X t1 := by rfl) (hg2 : Gl X t2 := by rfl)
    (hn1 : t1 ≠ "__name__" := by decide) (hd1 : (t1 == ("__debug__" : Str)) = false := by decide) (hn2 : t2 ≠ "__name__" := by decide) (hd2 : (t2 == ("__debug__" : Str)) = false := by decide)
    (he : starEach [a, .Tuple [.Name t1 q1, .Name t2 q2] x1 qt] X.env = (false, eval a X.env) :: starEach [.Tuple [.Name t1 q1, .Name t2 q2] x1 qt] X.env := by rfl)
    (hpl : (backTo pos (starEach [.Tuple [.Name t1 q1, .Name t2 q2] x1 qt] X.env)).any (·.1) = false := by rfl) (he2 : starEach [.Tuple [.Name t1 q1, .Name t2 q2] x1 qt] X.env = (false, eval (.Tuple [.Name t1 q1, .Name t2 q2] x1 qt) X.env) :: starEach [] X.env := by rfl)
    (he3 : starEach [.Name t1 q1, .Name t2 q2] X.env = (false, eval (.Name t1 q1) X.env) :: starEach [.Name t2 q2] X.env := by rfl) (he4 : starEach [.Name t2 q2] X.env = (false, eval (.Name t2 q2) X.env) :: starEach [] X.env := by rfl) :
    PE X (.Call (.Name "isinstance" p) [a, .Tuple [.Name t1 q1, .Name t2 q2] x1 qt] [] pos) (tE (zx X cl) (sIsi2 T1 T2 f)) := by
  refine pe_w (pe_callB call_isiT hgi mi PyProof.Rows.boot_isinstance (pa_cons ha (pa_cons (pe_tup (pa_cons (pe_bltn (v := .ty T1) hg1 m1 hT1 rfl hn1 hd1) (pa_cons (pe_bltn (v := .ty T2) hg2 m2 hT2 rfl hn2 hd2) pa_nil he4) he3)) pa_nil he2) he) (by decide) (by decide) he hpl) fun σ H Q ⟨env, w, r, e, k, hr, q⟩ => ?_
  subst e
  obtain ⟨⟨t, d⟩, h1, h2⟩ := Option.bind_eq_some_iff.mp hr
  obtain ⟨b, h3, rfl⟩ := Option.map_eq_some_iff.mp h2
  obtain ⟨b1, h4, h5⟩ := Option.bind_eq_some_iff.mp h3
  obtain ⟨b2, h6, rfl⟩ := Option.map_eq_some_iff.mp h5
  dsimp only at h4 h6
  refine ⟨env, w, _, rfl, k, h1, fun v w1 g1 r1 => ⟨by show 2 ≤ sizeLine; decide, fun p hp => ?_⟩⟩
  obtain ⟨hd, k1⟩ := isiD_kit (K := X.K) h4
  obtain ⟨_, k2⟩ := isiD_kit (K := X.K) h6
  have gp := Gr.put g1.wf (t := .T) (o := .tup [.ty T1, .ty T2]) hp
  refine ⟨v, p, [.ty T1, .ty T2], .type (tyOf d), [.type T1, .type T2], b1 || b2, rfl, upd_same, .cons (.ty T1) (.cons (.ty T2) .nil), ?_, ?_, ?_⟩
  · exact tyX_of (Rp.mono gp.h (r1.top g1.wf)) hd
  · refine kitAny_cons k1 (fun e => ?_) (fun e => by rw [e]; rfl)
    subst e
    exact kitAny_cons k2 (fun e => by subst e; rfl) (fun e => by rw [e]; rfl)
  · have := q (.bl (b1 || b2)) (w1.put .T p (.tup [.ty T1, .ty T2])) (g1.trans gp) (nN (.bl _) rfl)
    rw [put_H] at this
    exact this
theorem jx_tupOf {p : Pos} (hm : X.mg "tuple" = none) (ha : PE X a (tX (zx X cl) W f)) (hv : bootBuiltins "tuple" = some (.type "tuple")) (hg : Gl X "tuple" := by rfl) (he : starEach [a] X.env = (false, eval a X.env) :: starEach [] X.env := by rfl) (hpl : (backTo pos (starEach [] X.env)).any (·.1) = false := by rfl) :
    PE X (.Call (.Name "tuple" p) [a] [] pos) (tX (zx X cl) W (xTupOf f)) := by
  refine pe_w (pe_callTy call_tuple_of hg hm hv (pa_cons ha pa_nil he) (by decide) (by decide) he hpl) fun σ H Q ⟨env, w, r, e, k, h, q⟩ => ?_
  subst e
  refine tX_bind k h q.late fun x T1 v w1 h1 g1 k1 hx => ?_
  obtain ⟨M, hM, h1⟩ := Option.bind_eq_some_iff.mp h1
  rcases srcM_kind hM with ⟨xs, rfl⟩ | ⟨xs, rfl⟩
  · obtain ⟨pa, vs, rfl, h2, h3⟩ := src_lst k1.wf k1.tb hx hM
    refine ⟨pa, vs, rfl, .inl ⟨h2, fun np hnp => ?_⟩⟩
    dsimp only at h1
    split at h1
    · rename_i ds hd
      cases h1
      have := q (.ref np) (w1.put .N np (.tup vs)) (g1.trans ((Gr.put k1.wf hnp).gs k1.wf)) (k1.mono (Gr.put k1.wf hnp)) (new_tup (t := .N) k1.wf (by decide) hnp (pures_rp h3 hd))
      rw [put_H] at this
      exact this
    · cases h1
      obtain ⟨w2, e2, g2, k2, hx2⟩ := new_ok k1 (o := .tup vs) (M := .tup xs) hnp ⟨vs, upd_same, HvsOk.mono (w := w1) (w' := ⟨w1.N, w1.B, upd w1.H np (.tup vs), w1.m⟩) (.refl _) (List.prefix_refl _) h3⟩
      rw [← e2]
      exact q _ w2 (g1.trans g2) k2 hx2
  · obtain ⟨pa, vs, rfl, h2, h3⟩ := src_tup k1.wf k1.tb hx hM
    cases h1
    exact ⟨pa, vs, rfl, .inr ⟨h2, q _ w1 g1 k1 hx⟩⟩
/-! keywords -/
def permV (π : List Nat) (ws : List Value) : List Value := π.map fun i => ws.getD i .none
def permW (π : List Nat) (zs : List V) : List V := π.map fun i => zs.getD i .non
def permH (π : List Nat) (xs : List HV) : List HV := π.map fun i => xs.getD i (.pu .non)
structure KwOk (fd : FuncData) (ps ks : List Str) (n : Nat) (π : List Nat) : Prop where
  to : ∀ (s : Shared) (us ws : List Value), us.length = n → ws.length = ks.length → BindsTo s fd ⟨us, ks.zip ws⟩ (ps.zip (us ++ permV π ws))
theorem vals_getD : ∀ {zs : List V} {ws : List Value} (i : Nat), Vals zs ws → RelV (zs.getD i .non) (ws.getD i .none)
  | _, _, _, .nil => rfl
  | _, _, 0, .cons h _ => h
  | _, _, i + 1, .cons _ r => by simpa using vals_getD i r
theorem vals_perm {zs : List V} {ws : List Value} (h : Vals zs ws) : ∀ π : List Nat, Vals (permW π zs) (permV π ws)
  | [] => .nil
  | i :: π => .cons (vals_getD i h) (vals_perm h π)
theorem hvs_getD {Z : Zc} {w : Wd} : ∀ {vs : List V} {xs : List HV} (i : Nat), HvsOk Z w vs xs → HvOk Z w (vs.getD i .non) (xs.getD i (.pu .non))
  | [], [], _, _ => .non
  | v :: vs, x :: xs, 0, ⟨h, _⟩ => h
  | v :: vs, x :: xs, i + 1, ⟨_, r⟩ => by simpa using hvs_getD i r
  | [], _ :: _, _, h => h.elim
  | _ :: _, [], _, h => h.elim
theorem hvs_perm {Z : Zc} {w : Wd} {vs : List V} {xs : List HV} (h : HvsOk Z w vs xs) : ∀ π : List Nat, HvsOk Z w (permW π vs) (permH π xs)
  | [] => trivial
  | i :: π => ⟨hvs_getD i h, hvs_perm h π⟩
theorem jxk_nil : PK X [] (tXA (zx X cl) W xNil) := ⟨fun pos pins s σ H Q I ⟨env, w, r, e, k, hr, q⟩ => pk_nil.run pos pins s σ H Q I (by
  subst e
  cases hr
  exact q [] w (Gs.refl k.wf) k trivial)⟩
theorem jxk_cons {nm : Option Str} {kpos : Pos} (ha : PE X e (tX (zx X cl) W f)) (hr : PK X kws (tXA (zx X cl) W fa)) : PK X (⟨nm, e, kpos⟩ :: kws) (tXA (zx X cl) W (xCons f fa)) := by
  refine ⟨fun pos pins s σ H Q I ⟨env, w, r, e, k, h, q⟩ => (pk_cons ha hr).run pos pins s σ H Q I ?_⟩
  subst e
  show tX (zx X cl) W f σ w.H _
  refine tX_bind k h q.late fun x T1 v w1 h1 g1 k1 hx => ?_
  refine tXA_bind k1 h1 (q.late.mono g1) fun xs T2 vs w2 h2 g2 k2 hxs => ?_
  cases h2
  exact q _ w2 (g1.trans g2) k2 ⟨hx.mono g2.n g2.m, hxs⟩
def xMakeK (c : Str) (gi : List HV → Tb → Option (XRes HV)) (ks : List Str) (π : List Nat) (fa : FXA) : FX := fun env => bX (fa env) fun xs T => if xs.length = ks.length then mkX c gi (permH π xs) T else none
def xMethK (c m : Str) (gg : List HV → Tb → Option (XRes HV)) (ks : List Str) (π : List Nat) (o : FX) (fa : FXA) : FX := fun env => bX (o env) fun x T1 => (insOf T1 x).bind fun q => if q.1 = c ∧ m ∉ q.2 then bX (fa ⟨env.s, T1⟩) fun xs T2 => if xs.length = ks.length then gg (x :: permH π xs) T2 else none else none
end
end Vf
namespace Vf
open PySem L2
/-! ### defs by their own worth; the law's end -/
def gFX (np n : Nat) (F : SX) (xs : List HV) (T : Tb) : Option (XRes HV) := if xs.length = np then (F (env0H n xs T)).bind finX else none
theorem gFX_at {np n : Nat} {F : SX} {xs : List HV} {T : Tb} (h : xs.length = np) : gFX np n F xs T = (F (env0H n xs T)).bind finX := if_pos h
theorem gFX_len {np n : Nat} {F : SX} (xs : List HV) (T : Tb) (r : XRes HV) (h : gFX np n F xs T = some r) : xs.length = np := by
  unfold gFX at h
  split at h
  · assumption
  · cases h
theorem gFX_sem {np n : Nat} {F : SX} (xs : List HV) (T : Tb) (r : XRes HV) (h : gFX np n F xs T = some r) : (F (env0H n xs T)).bind finX = some r := by
  unfold gFX at h
  split at h
  · exact h
  · cases h
section
variable {P : Program} {w : World} {K : PySem.W.Frag} {mg : Str → Option Value} {base : Heap} {cl : Str → Option Addr}
/-- what is asked of the law -/
def spL (K : PySem.W.Frag) : Sp := fun vs H Q _ => ∃ a ns, vs = [.ref a] ∧ SqL K H a (ns.map V.int) ∧ LawOk ns ∧ ∀ H', Q (.bl true) H'
theorem spL_start {K : PySem.W.Frag} {H : Hp} {a : Addr} {ns : List Int} (hl : LawOk ns) (hS : SqL K H a (ns.map V.int)) : spL K [.ref a] H (fun v _ => v = .bl true) fun _ _ _ => False := ⟨a, ns, rfl, hS, hl, fun _ => rfl⟩
def scrX (ns : List Int) : HV := .pu (.scr (ns.map D.int))
theorem fn_law {f : Addr} {fd : FuncData} {k : Nat} {g : List HV → Tb → Option (XRes HV)} (F : FnOk P w K mg base (L2.CX P w) k f fd ["script"] (spX ⟨K, cl⟩ g)) (h : ∀ ns, LawOk ns → Ok (g [scrX ns] []) fun r => ∃ T, r = .val (.pu (.bl true)) T) : FnOk P w K mg base (L2.CX P w) k f fd ["script"] (spL K) := by
  have imp : ∀ vs H Q E, spL K vs H Q E → spX ⟨K, cl⟩ g vs H Q E := by
    rintro vs H Q E ⟨a, ns, rfl, hS, hl, q⟩
    obtain ⟨r, hr, T, rfl⟩ := h ns hl
    refine ⟨⟨H, H, H, []⟩, [scrX ns], [], _, rfl, ⟨.refl _, .refl _⟩, ⟨rfl, List.nodup_nil, fun a h => (by cases h), fun n M h => (by simp at h)⟩, ⟨?_, trivial⟩, hr, fun x T' e v w' g' hv tb => ?_, fun c ns ys T' e => nomatch e⟩
    · show Rp ⟨K, cl⟩ H (.ref a) (.scr (ns.map D.int))
      refine .scr hS ?_
      clear hS hl q hr
      induction ns with
      | nil => exact .nil
      | cons n ns ih => exact .cons (.int n) ih
    · cases e
      rw [show v = V.bl true from rp_val (d := .bl true) rfl hv]
      exact q _
  exact { F with
    len := fun vs H Q E hh => F.len vs H Q E (imp _ _ _ _ hh)
    run := fun A outer s H args us vs Q E h1 h2 h3 h4 h5 => F.run A outer s H args us vs Q E h1 h2 h3 h4 (imp _ _ _ _ h5) }
theorem cx_false {P : Program} {w : World} (H : Hp) (s : Shared) (e : Value) (s' : Shared) (h : L2.CX P w [] H s (fun _ _ _ => False) e s') : False := by
  obtain ⟨_, _, _, _, _, _, _, _, _, _, _, _, z⟩ := h
  exact z
end
end Vf
namespace Vf
open PySem L2
def xP (ct : FT) : FXT := fun env => (ct env).map fun b => .val b env.t
theorem jxt_p {X : Cx} {cl : Str → Option Addr} {W : WX} {a : Expr} {ct : FT} (h : PT X a (tT (zx X cl) ct)) : PT X a (tXT (zx X cl) W (xP ct)) := by
  refine pt_w h fun σ H Q ⟨env, w, r, e, k, hr, q⟩ => ?_
  subst e
  obtain ⟨b, h1, rfl⟩ := Option.map_eq_some_iff.mp hr
  exact ⟨env, w, b, rfl, k, h1, fun w1 g1 => q w1 (g1.gs k.wf) (k.mono g1)⟩
abbrev xYes : FXT := fun env => some (.val true env.t)
section
variable {P : Program} {w : World} {K : PySem.W.Frag} {mg : Str → Option Value} {base : Heap} {cl : Str → Option Addr}
theorem kw_of {x qual : Str} {st : Stmt} {f : Addr} {fd : FuncData} {ps ks : List Str} {n : Nat} {π : List Nat} (F : Fun K x qual st f fd)
    (h : ∀ (kV doc pm : Value) (an : Option Addr) (cdv ct : Value) (us ws : List Value), us.length = n → ws.length = ks.length → bindArgs (PySem.W.fnOf x qual (defArgs st) (defBody st) (defScope st) .none kV doc pm an cdv ct) ⟨us, ks.zip ws⟩ = pure (ps.zip (us ++ permV π ws))) : KwOk fd ps ks n π := by
  obtain ⟨oc, od, kV, doc, pm, an, cdv, ct, osl, rfl, lk, hcd⟩ := F.ex
  exact ⟨fun s us ws h1 h2 => .of_eq (h kV doc pm an cdv ct us ws h1 h2)⟩
/-- a def that is never called: where a recursion begins -/
theorem ca_none {x : Str} {st : Stmt} {f : Addr} {fd : FuncData} {ps : List Str} (D : Df K mg x st f fd) (hbi : Binds K fd ps []) (hbk : ∀ (s : Shared) (us : List Value), us.length = ps.length → BindsTo s fd ⟨[], ps.zip us⟩ (ps.zip us)) : Ca P w K mg base cl 0 x ps (fun _ => none) :=
  ⟨⟨f, fd, ⟨fun vs H Q E h => (by obtain ⟨N, rs, r, _, _, _, h, _⟩ := h; cases h), fun A outer s H args us vs Q E _ _ _ _ h => (by obtain ⟨N, rs, r, _, _, _, h, _⟩ := h; cases h)⟩, D.gm, D.fn.kp, hbi, hbk⟩, fun rs r h => (by cases h)⟩
end
end Vf
namespace Vf
open PySem L2
/-! ### what the simplifier may use of worths that change the table -/
section
variable {α β : Type} {o : Option (XRes α)} {k : α → Tb → Option (XRes β)} {kk : α → Tb → Option OutX} {env : Ev} {x y z : HV} {T T' : Tb} {s l : List Sl} {n i : Nat} {d : D} {f g h : FX} {fa : FXA} {c cd : FXT} {A B : SX} {sl : Sl} {xs ys : List HV} {Q : HV → Prop}
@[simp] theorem bX_eq : bX o k = o.bind (kX k) := rfl
@[simp] theorem bS_eq : bS env o kk = o.bind (kS env.s kk) := rfl
@[simp] theorem kX_val {x : α} : kX k (.val x T) = k x T := rfl
@[simp] theorem kX_exc {c : Str} {ns : List Str} : kX k (.exc c ns xs T) = some (.exc c ns xs T) := rfl
@[simp] theorem kS_val {x : α} : kS s kk (.val x T) = kk x T := rfl
@[simp] theorem kS_exc {c : Str} {ns : List Str} : kS s kk (.exc c ns xs T) = some (.ex c ns xs ⟨s, T⟩) := rfl
@[simp] theorem xE_eq {f : FE} : xE f env = (f env).bind fun r => resX r env.t := rfl
@[simp] theorem xH_eq {h : FH} : xH h env = (h env).map fun x => .val x env.t := rfl
@[simp] theorem xOp_eq {o : TD → TD → Option TD} : xOp o f g env = (f env).bind (kX fun x T1 => (g ⟨env.s, T1⟩).bind (kX fun y T2 => opX o x y T2)) := rfl
@[simp] theorem opX_eq {o : TD → TD → Option TD} : opX o x y T = (tdX T x).bind fun a => (tdX T y).bind fun b => (o a b).bind fun r => resX r T := rfl
@[simp] theorem xUn_eq {o : TD → Option TD} : xUn o f env = (f env).bind (kX (unX o)) := rfl
@[simp] theorem unX_eq {o : TD → Option TD} : unX o x T = (tdX T x).bind fun a => (o a).bind fun r => resX r T := rfl
@[simp] theorem xNotV_eq : xNotV f env = (f env).bind (kX fun x T => (boolX x).map fun b => .val (.pu (.bl (!b))) T) := rfl
@[simp] theorem xAndV_eq : xAndV f g env = (f env).bind (kX fun x T => (boolX x).bind fun b => if b then g ⟨env.s, T⟩ else some (.val (.pu (.bl false)) T)) := rfl
@[simp] theorem xOrV_eq : xOrV f g env = (f env).bind (kX fun x T => (boolX x).bind fun b => if b then some (.val (.pu (.bl true)) T) else g ⟨env.s, T⟩) := rfl
@[simp] theorem xTru_eq : xTru f env = (f env).bind (kX fun x T => (truX T x).map fun b => .val b T) := rfl
@[simp] theorem xBl_eq : xBl f env = (f env).bind (kX fun x T => (boolX x).map fun b => .val b T) := rfl
@[simp] theorem xNotT_eq : xNotT c env = (c env).bind (kX fun b T => some (.val (!b) T)) := rfl
@[simp] theorem xAndT_eq : xAndT c cd env = (c env).bind (kX fun b T => if b then cd ⟨env.s, T⟩ else some (.val false T)) := rfl
@[simp] theorem xOrT_eq : xOrT c cd env = (c env).bind (kX fun b T => if b then some (.val true T) else cd ⟨env.s, T⟩) := rfl
@[simp] theorem xIfe_eq : xIfe c f g env = (c env).bind (kX fun b T => if b then f ⟨env.s, T⟩ else g ⟨env.s, T⟩) := rfl
@[simp] theorem xNil_eq : xNil env = some (.val [] env.t) := rfl
@[simp] theorem xCons_eq : xCons f fa env = (f env).bind (kX fun x T => (fa ⟨env.s, T⟩).bind (kX fun xs T2 => some (.val (x :: xs) T2))) := rfl
@[simp] theorem xB_eq {o : List TD → Option TD} : xB o fa env = (fa env).bind (kX (bK o)) := rfl
@[simp] theorem bK_eq {o : List TD → Option TD} : bK o xs T = (mapO (tdX T) xs).bind fun rs => (o rs).bind fun r => resX r T := rfl
@[simp] theorem xCallP_eq {g : List TD → Option TD} : xCallP g fa env = (fa env).bind (kX (pK g)) := rfl
@[simp] theorem pK_eq {g : List TD → Option TD} : pK g xs T = (mapO (tdX T) xs).bind fun rs => (g (rs.map dn)).bind fun r => resX (up r) T := rfl
@[simp] theorem xCall_eq {g : List HV → Tb → Option (XRes HV)} : xCall g fa env = (fa env).bind (kX g) := rfl
@[simp] theorem xP_eq {ct : FT} : xP ct env = (ct env).map fun b => .val b env.t := rfl
@[simp] theorem mapO_nil {f : α → Option β} : mapO f [] = some [] := rfl
@[simp] theorem mapO_cons {f : α → Option β} {x : α} {xs : List α} : mapO f (x :: xs) = (f x).bind fun y => (mapO f xs).map fun ys => y :: ys := rfl
@[simp] theorem tdX_pu : tdX T (.pu d) = some (.N, d) := rfl
@[simp] theorem resX_N : resX (.N, d) T = some (.val (.pu d) T) := rfl
@[simp] theorem boolX_bl {b : Bool} : boolX (.pu (.bl b)) = some b := rfl
@[simp] theorem truX_pu : truX T (.pu d) = tru (.N, d) := rfl
@[simp] theorem hVar_0h : hVar 0 ⟨.han n :: l, T⟩ = some (.ob n) := rfl
@[simp] theorem hVar_0v : hVar 0 ⟨.val .N d :: l, T⟩ = some (.pu d) := rfl
@[simp] theorem hVar_s : hVar (n + 1) ⟨sl :: l, T⟩ = hVar n ⟨l, T⟩ := rfl
@[simp] theorem slH_pu : slH (.pu d) = .val .N d := rfl
@[simp] theorem slH_ob : slH (.ob n) = .han n := rfl
@[simp] theorem env0H_eq : env0H n xs T = ⟨xs.map slH ++ List.replicate (n - xs.length) .un, T⟩ := rfl
@[simp] theorem setHS_pu : setHS n (.pu d) ⟨l, T⟩ = if n < l.length then some ⟨l.set n (.val .N d), T⟩ else none := rfl
@[simp] theorem setHS_ob : setHS n (.ob i) ⟨l, T⟩ = if n < l.length then some ⟨l.set n (.han i), T⟩ else none := rfl
@[simp] theorem zNx_eq : zNx env = some (.nx env) := rfl
@[simp] theorem zThen_nx : zThen B (.nx env) = B env := rfl
@[simp] theorem zThen_rt : zThen B (.rt x T) = some (.rt x T) := rfl
@[simp] theorem zThen_bk : zThen B (.bk env) = some (.bk env) := rfl
@[simp] theorem zThen_ct : zThen B (.ct env) = some (.ct env) := rfl
@[simp] theorem zThen_ex {c : Str} {ns : List Str} : zThen B (.ex c ns xs env) = some (.ex c ns xs env) := rfl
@[simp] theorem zSeq_eq : zSeq A B env = (A env).bind (zThen B) := rfl
@[simp] theorem liftO_nx : liftO (.nx env) = some (.nx env) := rfl
@[simp] theorem zLift_eq {f : FS} : zLift f env = (f env).bind liftO := rfl
@[simp] theorem zSet_eq : zSet n f env = (f env).bind (kS env.s (setZ n env.s)) := rfl
@[simp] theorem setZ_eq : setZ n s x T = (setHS n x ⟨s, T⟩).map .nx := rfl
@[simp] theorem zRet_eq : zRet f env = (f env).bind (kS env.s fun x T => some (.rt x T)) := rfl
@[simp] theorem zDo_eq : zDo f env = (f env).bind (kS env.s fun _ T => some (.nx ⟨env.s, T⟩)) := rfl
@[simp] theorem zIf_eq : zIf c A B env = (c env).bind (kS env.s fun k T => if k then A ⟨env.s, T⟩ else B ⟨env.s, T⟩) := rfl
@[simp] theorem zSto_eq {cs : List Str} {m : Str} : zSto cs m f g env = (g env).bind (kS env.s fun x T1 => (f ⟨env.s, T1⟩).bind (kS env.s fun y T2 => stoZ cs m env.s x y T2)) := rfl
@[simp] theorem zPut_eq : zPut f g h env = (h env).bind (kS env.s fun x T1 => (f ⟨env.s, T1⟩).bind (kS env.s fun y T2 => (g ⟨env.s, T2⟩).bind (kS env.s fun j T3 => putZ env.s x y j T3))) := rfl
@[simp] theorem zFor_eq {fi : FI} {st : TD → Ev → Option Ev} : zFor fi st A env = (fi env).bind fun items => forZ A st items env := rfl
@[simp] theorem zForH_eq {st : HV → Ev → Option Ev} : zForH f st A env = (f env).bind (kS env.s (forHK A st env.s)) := rfl
@[simp] theorem forHK_eq {st : HV → Ev → Option Ev} : forHK A st s x T = (srcM T x).bind fun M => forH A st x M (mobI M) ⟨s, T⟩ := rfl
@[simp] theorem finX_rt : finX (.rt x T) = some (.val x T) := rfl
@[simp] theorem finX_nx : finX (.nx env) = some (.val (.pu .non) env.t) := rfl
@[simp] theorem finX_ex {c : Str} {ns : List Str} : finX (.ex c ns xs env) = some (.exc c ns xs env.t) := rfl
@[simp] theorem xTup_eq : xTup fa env = (fa env).bind (kX tupK) := rfl
@[simp] theorem xLst_eq : xLst fa env = (fa env).bind (kX lstK) := rfl
@[simp] theorem xFld_eq {cs : List Str} {m : Str} : xFld cs m f env = (f env).bind (kX (fldX cs m)) := rfl
@[simp] theorem xIx_eq : xIx f g env = (f env).bind (kX fun x T1 => (g ⟨env.s, T1⟩).bind (kX fun y T2 => ixK x y T2)) := rfl
@[simp] theorem ixK_int {j : Int} : ixK x (.pu (.int j)) T = (ixX T x j).map fun z => .val z T := rfl
@[simp] theorem xLm_eq {m : List HV → List HV → Option (HV × List HV)} : xLm m f fa env = (f env).bind (kX fun x T1 => (isLst T1 x).bind fun _ => (fa ⟨env.s, T1⟩).bind (kX fun xs T2 => lmK m x xs T2)) := rfl
@[simp] theorem xMeth_eq {c m : Str} {gg : List HV → Tb → Option (XRes HV)} : xMeth c m gg f fa env = (f env).bind (kX fun x T1 => (insOf T1 x).bind fun q => if q.1 = c ∧ m ∉ q.2 then (fa ⟨env.s, T1⟩).bind (kX fun xs T2 => gg (x :: xs) T2) else none) := rfl
@[simp] theorem xMethK_eq {c m : Str} {gg : List HV → Tb → Option (XRes HV)} {ks : List Str} {π : List Nat} : xMethK c m gg ks π f fa env = (f env).bind (kX fun x T1 => (insOf T1 x).bind fun q => if q.1 = c ∧ m ∉ q.2 then (fa ⟨env.s, T1⟩).bind (kX fun xs T2 => if xs.length = ks.length then gg (x :: permH π xs) T2 else none) else none) := rfl
@[simp] theorem xMake_eq {c : Str} {gg : List HV → Tb → Option (XRes HV)} : xMake c gg fa env = (fa env).bind (kX (mkX c gg)) := rfl
@[simp] theorem xMakeK_eq {c : Str} {gg : List HV → Tb → Option (XRes HV)} {ks : List Str} {π : List Nat} : xMakeK c gg ks π fa env = (fa env).bind (kX fun xs T => if xs.length = ks.length then mkX c gg (permH π xs) T else none) := rfl
@[simp] theorem mkX_eq {c : Str} {gg : List HV → Tb → Option (XRes HV)} : mkX c gg xs T = (gg (.ob T.length :: xs) (T ++ [some (.ins c [] [])])).bind (mkR T.length) := rfl
@[simp] theorem mkR_non : mkR n (.val (.pu .non) T) = some (.val (.ob n) T) := rfl
@[simp] theorem xIsi_eq {t : String} : xIsi t f env = (f env).bind (kX (isiX t)) := rfl
@[simp] theorem isiX_eq {t : String} : isiX t x T = (tdX T x).bind fun r => (isiD r.2 t).map fun k => .val (.pu (.bl k)) T := rfl
@[simp] theorem xList_eq : xList f env = (f env).bind (kX listK) := rfl
@[simp] theorem listK_eq : listK x T = (srcM T x).map fun M => .val (.ob T.length) (T ++ [some (.lst (mobI M))]) := rfl
@[simp] theorem xTupOf_eq : xTupOf f env = (f env).bind (kX tupOfK) := rfl
@[simp] theorem xLen_eq : xLen f env = (f env).bind (kX lenK) := rfl
@[simp] theorem lenK_pu : lenK (.pu d) T = (lenB [(.N, d)]).bind fun r => resX r T := rfl
@[simp] theorem lenK_ob {M : Mob} (h : srcM T (.ob n) = some M) : lenK (.ob n) T = some (.val (.pu (.int (mobI M).length)) T) := by
  unfold lenK
  unfold srcM at h
  dsimp only at h ⊢
  split
  · rename_i e; rw [e] at h; cases h
  · show (srcM T (.ob n)).map _ = _
    unfold srcM
    dsimp only
    rw [h]; rfl
@[simp] theorem ixK_str {z : Str} : ixK x (.pu (.str z)) T = (ixXS T x z).map fun y => .val y T := rfl
@[simp] theorem mobI_lst : mobI (.lst xs) = xs := rfl
@[simp] theorem mobI_tup : mobI (.tup xs) = xs := rfl
@[simp] theorem srcM_l {ds : List D} : srcM T (.pu (.lst ds)) = some (.lst (ds.map .pu)) := rfl
@[simp] theorem srcM_s {ds : List D} : srcM T (.pu (.scr ds)) = some (.lst (ds.map .pu)) := rfl
@[simp] theorem srcM_t {ds : List D} : srcM T (.pu (.tup ds)) = some (.tup (ds.map .pu)) := rfl
theorem obLst_ob (h : T[n]? = some (some (.lst xs))) : obLst T (.ob n) = some (n, xs) := by
  unfold obLst
  simp [h]
theorem lmK_ob {m : List HV → List HV → Option (HV × List HV)} (h : T[n]? = some (some (.lst ys))) : lmK m (.ob n) xs T = (m ys xs).map fun r => .val r.1 (T.set n (some (.lst r.2))) := by
  unfold lmK
  rw [obLst_ob h]
  rfl
theorem snap_ob {M : Mob} (h : T[n]? = some (some M)) : snapN T (i + 1) (.ob n) = snapM (snapN T i) M := by
  show (match T[n]? with | some (some M) => snapM (snapN T i) M | _ => none) = _
  rw [h]
@[simp] theorem snapN_pu : snapN T i (.pu d) = some d := by cases i <;> rfl
@[simp] theorem snapM_lst {f : HV → Option D} : snapM f (.lst xs) = (mapO f xs).map .lst := rfl
@[simp] theorem snapM_tup {f : HV → Option D} : snapM f (.tup xs) = (mapO f xs).map .tup := rfl
@[simp] theorem snapM_ins {f : HV → Option D} {c : Str} {fs : List Str} : snapM f (.ins c fs xs) = (mapO f xs).map (.ins c fs) := rfl
theorem tdX_ob {M : Mob} (h : T[n]? = some (some M)) : tdX T (.ob n) = (snapM (snapN T 8) M).map fun d => (.T, d) := by
  show (snapN T 9 (.ob n)).map _ = _
  rw [snap_ob h]
theorem mapO_map {f : β → Option D} {g : α → β} {F : α → D} : ∀ {xs : List α}, (∀ x ∈ xs, f (g x) = some (F x)) → mapO f (xs.map g) = some (xs.map F)
  | [], _ => rfl
  | x :: xs, h => by
    rw [List.map_cons, mapO_cons, h x List.mem_cons_self, mapO_map fun y hy => h y (List.mem_cons_of_mem _ hy)]
    rfl
@[simp] theorem mapO_pus {ds : List D} : mapO (snapN T i) (ds.map .pu) = some ds := by
  have := mapO_map (f := snapN T i) (g := HV.pu) (F := fun d => d) (xs := ds) fun x _ => snapN_pu
  simpa using this
@[simp] theorem pures_pus : ∀ {ds : List D}, pures (ds.map .pu) = some ds
  | [] => rfl
  | d :: ds => by
    show (pures (ds.map .pu)).map (d :: ·) = _
    rw [pures_pus]
    rfl
@[simp] theorem ixX_pu {j : Int} : ixX T (.pu d) j = (ixD (.N, d) j).bind fun r => if r.1 = .N then some (.pu r.2) else none := rfl
theorem ixX_lst {j : Int} (h : T[n]? = some (some (.lst xs))) : ixX T (.ob n) j = atI xs j := by
  unfold ixX
  simp [h]
@[simp] theorem mApp_one : mApp ys [x] = if ys.length ≤ lim then some (.pu .non, ys ++ [x]) else none := rfl
@[simp] theorem setXCons_cons {st : HV → Ev → Option Ev} {r : List HV → Ev → Option Ev} : setXCons st r (x :: xs) env = (st x env).bind fun e => r xs e := rfl
@[simp] theorem setXTup_eq {r : List HV → Ev → Option Ev} : setXTup n r x env = (srcM env.t x).bind fun M => if (mobI M).length = n then r (mobI M) env else none := rfl
end
/-! loops -/
theorem forZ_inv {A : SX} {s : TD → Ev → Option Ev} {Q : OutX → Prop} : ∀ {items : List TD} (I : Nat → Ev → Prop) (k0 : Nat) {env : Ev}, I k0 env →
    (∀ (k : Nat) (r : TD) (env : Ev), items[k]? = some r → I (k0 + k) env → Ok (s r env) fun e1 => Ok (A e1) fun o => match o with
      | .nx e => I (k0 + k + 1) e
      | .ct e => I (k0 + k + 1) e
      | .bk e => Q (.nx e)
      | o => Q o) → (∀ env, I (k0 + items.length) env → Q (.nx env)) → Ok (forZ A s items env) Q
  | [], I, k0, env, h0, _, he => Ok_some.mpr (he env h0)
  | r :: rs, I, k0, env, h0, hs, he => by
    obtain ⟨e1, q1, o, q2, q3⟩ := hs 0 r env rfl h0
    show Ok ((s r env).bind _) Q
    rw [q1]
    show Ok ((A e1).bind _) Q
    rw [q2]
    have next : ∀ e, I (k0 + 1) e → Ok (forZ A s rs e) Q := fun e hi => forZ_inv I (k0 + 1) hi (fun k r env hk hI => by
      have := hs (k + 1) r env (by simpa using hk) (by rw [Nat.add_assoc, Nat.add_comm 1 k] at hI; exact hI)
      rw [Nat.add_assoc k0 1 k, Nat.add_comm 1 k]
      exact this) (fun env hI => he env (by rw [List.length_cons, Nat.add_comm rs.length 1, ← Nat.add_assoc]; exact hI))
    cases o with
    | nx e => exact next e q3
    | ct e => exact next e q3
    | bk e => exact Ok_some.mpr q3
    | rt x T => exact Ok_some.mpr q3
    | ex c ns xs e => exact Ok_some.mpr q3
theorem forZ_ok {A : SX} {s : TD → Ev → Option Ev} {Q : OutX → Prop} {items : List TD} (I : Nat → Ev → Prop) {env : Ev} (h0 : I 0 env)
    (hs : ∀ (k : Nat) (r : TD) (env : Ev), items[k]? = some r → I k env → Ok (s r env) fun e1 => Ok (A e1) fun o => match o with
      | .nx e => I (k + 1) e
      | .ct e => I (k + 1) e
      | .bk e => Q (.nx e)
      | o => Q o) (he : ∀ env, I items.length env → Q (.nx env)) : Ok (forZ A s items env) Q :=
  forZ_inv I 0 h0 (fun k r env hk hI => by simpa using hs k r env hk (by simpa using hI)) (fun env hI => he env (by simpa using hI))
@[simp] theorem xLc_eq {f : FX} {s : HV → Ev → Option Ev} {ct : FXT} {fe : FX} {vs : List Nat} {l : List Sl} {T0 : Tb} : xLc f s ct fe vs ⟨l, T0⟩ = if ownFree l then (f ⟨l, T0⟩).bind (kX fun x T => lcXK ct fe s (wipeE ⟨l, T⟩ vs).s x T) else none := rfl
@[simp] theorem ownFree_nil : ownFree [] = true := rfl
@[simp] theorem ownFree_un {l : List Sl} : ownFree (.un :: l) = ownFree l := rfl
@[simp] theorem ownFree_val {l : List Sl} {t : Tg} {d : D} : ownFree (.val t d :: l) = ownFree l := rfl
@[simp] theorem ownFree_han {l : List Sl} {n : Nat} : ownFree (.han n :: l) = ownFree l := rfl
@[simp] theorem lcXK_eq {ct : FXT} {fe : FX} {s : HV → Ev → Option Ev} {sl : List Sl} {x : HV} {T : Tb} : lcXK ct fe s sl x T = (srcM T x).bind fun M => if (mobI M).length ≤ lim then (lcX ct fe s sl x M (mobI M) T).map fun r => .val (.ob r.2.length) (r.2 ++ [some (.lst r.1)]) else none := rfl
end Vf
/-! tuple * int, all numbers up to a thousand -/
namespace Vf
open PySem PySem.Spec PyProof.Rows L2
theorem tuple_mul1 (l : Addr) (items : Array Value) (n : Nat) (dd : Option Addr) (sl : Array (Option Value)) (u : Tok) :
    Meets (Builtin.«tuple.__mul__» ⟨[.ref l, .int 1 u], []⟩) (fun _ R s => s.heap.get? l = some { cls := .type "tuple", dict := dd, data := .seq items n, slots := sl } ∧
      R (.ok (.ret (Value.ref l))) s) :=
  .of_wp fun prog w A R s h => by
    obtain ⟨hp, g, d, tk, os⟩ := s
    obtain ⟨hl, h⟩ := h
    have f1 := AutoSeq1.idx_int
    wp_walk using wpAny_loadPart' hl
    repeat (first
      | (refine wpAny_ite_false (decide_eq_false (by decide)) ?_; wp_walk using wpAny_loadPart' hl)
      | (refine wpAny_ite_true (by simp) ?_; wp_walk using wpAny_loadPart' hl))
    exact ⟨_, rfl, h⟩
theorem tuple_mul0 (l : Addr) (items : Array Value) (n : Nat) (dd : Option Addr) (sl : Array (Option Value)) (x : Int) (u : Tok) (c0 : (decide (x < -(2 ^ 63)) || decide (x ≥ 2 ^ 63)) = false) (c1 : (items.isEmpty || x == 1) = false) (c2 : (decide (x ≤ 0) || items.isEmpty) = true) :
    Meets (Builtin.«tuple.__mul__» ⟨[.ref l, .int x u], []⟩) (fun _ R s => s.heap.get? l = some { cls := .type "tuple", dict := dd, data := .seq items n, slots := sl } ∧
      R (.ok (.ret (Value.ref s.heap.objs.size))) { s with heap := s.heap.push { cls := Value.type "tuple", data := Data.seq #[] }, toks := s.toks }) :=
  .of_wp fun prog w A R s h => by
    obtain ⟨hp, g, d, tk, os⟩ := s
    obtain ⟨hl, h⟩ := h
    have f1 := AutoSeq1.idx_int
    wp_walk using wpAny_loadPart' hl
    repeat (first
      | (refine wpAny_ite_false (decide_eq_false (by rw [c0]; exact Bool.false_ne_true)) ?_; wp_walk using wpAny_loadPart' hl)
      | (refine wpAny_ite_false (decide_eq_false (by rw [c1]; exact Bool.false_ne_true)) ?_; wp_walk using wpAny_loadPart' hl)
      | (refine wpAny_ite_true (decide_eq_true c2) ?_; wp_walk using wpAny_loadPart' hl))
    exact ⟨_, rfl, h⟩
/-- tuple * number -/
def rRepX (K : PySem.W.Frag) : R2 := fun x y H Q => ∃ l k xs, x = .ref l ∧ y = .int k ∧ SqT K H l xs ∧ xs ≠ [] ∧ xs.length ≤ 1000 ∧ -1000 ≤ k ∧ k ≤ 1000 ∧ (k = 1 → Q (.ref l) H) ∧ (k ≠ 1 → ∀ p, H p = none → Q (.ref p) (upd H p (.tup (List.replicate k.toNat xs).flatten)))
theorem op_repX {X : Cx} : OpR X (binaryOp .Mult) (rRepX X.K) := by
  intro pins s σ H x y v u Q I rx ry h
  obtain ⟨l, k, xs, rfl, rfl, hT, hne, hz, h1, h2, q1, q2⟩ := h
  by_cases hk2 : 2 ≤ k
  · exact op_repT pins s σ H _ _ v u Q I rx ry ⟨l, k, xs, rfl, rfl, hT, hne, hk2, h2, hz, q2 (by omega)⟩
  cases rx
  obtain ⟨t, rfl⟩ := ry
  obtain ⟨its, r, ⟨⟨cls, dd, data, sl⟩, ho, hc, n, hd⟩, hs⟩ := I.tuple hT
  simp only at hc hd
  subst hc hd
  have hle : its.length = xs.length := r.length.symm
  have hn : its ≠ [] := fun e => hne (by
    rw [e] at hle
    exact List.eq_nil_of_length_eq_zero hle.symm)
  have hi : its.toArray.isEmpty = false := by
    cases its with
    | nil => exact absurd rfl hn
    | cons a b => rfl
  by_cases hk1 : k = 1
  · subst hk1
    refine wpAny_binaryOp_repeat_ref (T := "tuple") (U := "int") (by decide) ⟨_, ho, rfl⟩ (fun s' => typeIs_int s' 1 t) noFill_tuple_mul F.fills_int_mul F.slot_int_rmul repeat_tuple F.slot_int_index.lookup
      (call_meets F.slot_int_rmul (typeIs_int s 1 t) F.entry_int_rmul (F.args_int_rmul_2 _ _) (int_rmul_tuple 1 t l its.toArray n dd sl)
        ⟨ho, rfl, ⟨_, ho, rfl⟩, call_meets F.slot_tuple_mul ⟨_, ho, rfl⟩ F.entry_tuple_mul (F.args_tuple_mul_2 _ _) (tuple_mul1 l its.toArray n dd sl t) ⟨ho, ?_⟩⟩)
    exact ⟨.ref l, H, I, rfl, q1 rfl⟩
  · have c0 : (decide (k < -(2 ^ 63)) || decide (k ≥ 2 ^ 63)) = false := by
      rw [decide_eq_false (by omega), decide_eq_false (by omega)] <;> rfl
    have c1 : (its.toArray.isEmpty || k == 1) = false := by
      rw [hi, Bool.false_or]
      exact beq_eq_false_iff_ne.mpr hk1
    have c2 : (decide (k ≤ 0) || its.toArray.isEmpty) = true := by
      rw [decide_eq_true (by omega), Bool.true_or]
    refine wpAny_binaryOp_repeat_ref (T := "tuple") (U := "int") (by decide) ⟨_, ho, rfl⟩ (fun s' => typeIs_int s' k t) noFill_tuple_mul F.fills_int_mul F.slot_int_rmul repeat_tuple F.slot_int_index.lookup
      (call_meets F.slot_int_rmul (typeIs_int s k t) F.entry_int_rmul (F.args_int_rmul_2 _ _) (int_rmul_tuple k t l its.toArray n dd sl)
        ⟨ho, rfl, ⟨_, ho, rfl⟩, call_meets F.slot_tuple_mul ⟨_, ho, rfl⟩ F.entry_tuple_mul (F.args_tuple_mul_2 _ _) (tuple_mul0 l its.toArray n dd sl k t c0 c1 c2) ⟨ho, ?_⟩⟩)
    have e0 : (List.replicate k.toNat xs).flatten = [] := by
      have : k.toNat = 0 := by omega
      rw [this]
      rfl
    have qq := q2 hk1 _ (I.hok.fresh (Nat.le_refl _))
    rw [e0] at qq
    refine ⟨.ref s.heap.objs.size, _, I.laid (t' := s.toks) (o := .tup []) (fun b ob q => Heap.get?_push_of_some _ q) (Nat.le_refl _) ?_, rfl, qq⟩
    exact ⟨by rw [sizeLine_eq]; exact Nat.zero_le _, [], .nil, IsTup.new _ _⟩
noncomputable def oMulX (a b : TD) : Option TD := match a.2 with
  | .tup xs => (match b.2 with
    | .int k => cif (xs ≠ [] ∧ xs.length ≤ 1000 ∧ -1000 ≤ k ∧ k ≤ 1000) (some (if k = 1 then (a.1, .tup xs) else (el a.1, .tup (List.replicate k.toNat xs).flatten))) none
    | _ => none)
  | _ => oMul a b
theorem or_mulX {X : Cx} {cl : Str → Option Addr} : OpR X (binaryOp .Mult) (rO (zx X cl) oMulX) := by
  rintro pins s σ H x y v u Q I rx ry ⟨w, ⟨t, d⟩, ⟨t', d'⟩, z, eH, hw, ha, hb, ho, q⟩
  unfold oMulX at ho
  dsimp only at ho
  split at ho
  · rename_i xs
    split at ho
    · rename_i k
      obtain ⟨hc, ho⟩ := cif_get ho
      cases ho
      have ha' := ha
      obtain ⟨p, vs, rfl, h1, h2⟩ := ha.tup hw
      have e2 := rv_int hw hb
      subst eH e2
      refine op_repX pins s σ w.H _ _ v u Q I rx ry ⟨p, k, vs, rfl, rfl, h1, ?_, ?_, hc.2.2.1, hc.2.2.2, fun hk => ?_, fun hk np hnp => ?_⟩
      · intro e
        subst e
        cases h2
        exact hc.1 rfl
      · rw [h2.length]; exact hc.2.1
      · rw [if_pos hk] at q
        exact q _ w (Gr.refl hw) ha'
      · rw [if_neg hk] at q
        have g := Gr.put hw (t := el t) (o := .tup (List.replicate k.toNat vs).flatten) hnp
        have := q _ _ g (new_tup hw (el_ne _) hnp (h2.rep _))
        rw [put_H] at this
        exact this
    · cases ho
  · exact or_mul (cl := cl) pins s σ H x y v u Q I rx ry ⟨w, (t, d), (t', d'), z, eH, hw, ha, hb, ho, q⟩
section
variable {t u : Tg} {i k : Int} {xs : List D} {x : Str} {r : TD} {Q : TD → Prop}
@[simp] theorem oMulX_int : oMulX (t, .int i) r = oMul (t, .int i) r := rfl
@[simp] theorem oMulX_lst : oMulX (t, .lst xs) r = oMul (t, .lst xs) r := rfl
@[simp] theorem oMulX_str : oMulX (t, .str x) r = oMul (t, .str x) r := rfl
@[simp] theorem Ok_oMulX_tup : Ok (oMulX (t, .tup xs) (u, .int k)) Q ↔ (xs ≠ [] ∧ xs.length ≤ 1000 ∧ -1000 ≤ k ∧ k ≤ 1000) ∧ Q (if k = 1 then (t, .tup xs) else (el t, .tup (List.replicate k.toNat xs).flatten)) := by
  show Ok (cif _ _ none) Q ↔ _
  simp
end
end Vf
namespace Vf
open PySem L2
/-! ### pop(i), insert(i, e) -/
noncomputable def mPopI (ys as : List HV) : Option (HV × List HV) := match as with | [.pu (.int i)] => cif (-4611686018427387904 ≤ i ∧ i < 4611686018427387904) ((ixN ys.length i).bind fun k => (ys[k]?).map fun y => (y, ys.eraseIdx k)) none | _ => none
@[simp] theorem Ok_mPopI {ys : List HV} {i : Int} {Q : HV × List HV → Prop} : Ok (mPopI ys [.pu (.int i)]) Q ↔ (-4611686018427387904 ≤ i ∧ i < 4611686018427387904) ∧ Ok ((ixN ys.length i).bind fun k => (ys[k]?).map fun y => (y, ys.eraseIdx k)) Q := by
  show Ok (cif _ _ none) Q ↔ _
  exact Ok_cif
@[simp] theorem Ok_mIns {ys : List HV} {i : Int} {y : HV} {Q : HV × List HV → Prop} : Ok (mIns ys [.pu (.int i), y]) Q ↔ (ys.length ≤ lim ∧ 0 ≤ i ∧ i < 4611686018427387904) ∧ Q (.pu .non, ys.take i.toNat ++ [y] ++ ys.drop i.toNat) := by
  show Ok (cif _ _ none) Q ↔ _
  rw [Ok_cif, Ok_some]
end Vf
namespace Vf
open PySem L2
/-! ### an exception object with its own __init__, made outside of a raise -/
end Vf
namespace Vf
open PySem L2
/-! ### the __init__ of an exception class: rows self.f = e, e pure -/
/-- the object at a as it stands: nothing stored yet, or its dict at dx; neither is known to anyone else -/
def IniAt (w : Wd) (a C : Addr) (st : List (Str × V)) : Prop := w.B a = none ∧ ((st = [] ∧ w.H a = some (exo a C none)) ∨ ∃ dx, w.B dx = none ∧ dx ≠ a ∧ w.H a = some (exo a C (some dx)) ∧ w.H dx = some (exd dx st))
def StOk (Z : Zc) (w : Wd) (sv : List (Str × V)) (sd : List (Str × D)) : Prop := sv.map (·.1) = sd.map (·.1) ∧ RpL Z w.N (sv.map (·.2)) (sd.map (·.2))
theorem IniAt.gr {w w' : Wd} {a C : Addr} {st : List (Str × V)} (g : Gr w w') (h : IniAt w a C st) : IniAt w' a C st := by
  have nb : ∀ x u, w.B x = none → w.H x = some u → w'.B x = none := fun x u h1 h2 => by
    cases q : w'.B x with
    | none => rfl
    | some o =>
      rcases g.fb x (by rw [q]; exact fun z => nomatch z) with z | z
      · exact absurd h1 z
      · rw [h2] at z; cases z
  rcases h with ⟨h0, ⟨h1, h2⟩ | ⟨dx, h1, h2, h3, h4⟩⟩
  · exact ⟨nb _ _ h0 h2, .inl ⟨h1, g.h _ _ h2⟩⟩
  · exact ⟨nb _ _ h0 h3, .inr ⟨dx, nb _ _ h1 h4, h2, g.h _ _ h3, g.h _ _ h4⟩⟩
end Vf
namespace Vf
open PySem L2
/-! ### raise C(e, ..), C with its own __init__ -/
def zRaise (c : Str) (g : List D → Option (List (Str × D))) (fa : FXA) : SX := fun env => bS env (fa env) fun xs T => if xs.length ≤ 1000 then (pures xs).bind fun ds => (g ds).bind fun out => if out.isEmpty then none else some (.ex c (out.map (·.1)) (out.map fun q => .pu q.2) ⟨env.s, T⟩) else none
section
variable {X : Cx} {cl : Str → Option Addr} {W : WX} {x c : Str} {C fI : Addr} {k : Nat} {fd : FuncData} {ps : List Str} {g : List D → Option (List (Str × D))} {e : Expr} {es : List Expr} {fa : FXA} {p pos pos' : Pos}
@[simp] theorem zRaise_eq {env : Ev} : zRaise c g fa env = (fa env).bind (kS env.s fun xs T => if xs.length ≤ 1000 then (pures xs).bind fun ds => (g ds).bind fun out => if out.isEmpty then none else some (.ex c (out.map (·.1)) (out.map fun q => .pu q.2) ⟨env.s, T⟩) else none) := rfl
end
end Vf
/-! ### enumerate over a list or a tuple, from any number -/
namespace PySem
open Sem (wp)
open AutoSeq1 (wpAny_loadPart')
end PySem
namespace Vf
open PySem PySem.Spec PyProof.Rows L2
/-- a sequence of either kind -/
def SqB (tp : Bool) (K : PySem.W.Frag) (H : Hp) (a : Addr) (xs : List V) : Prop := match tp with | true => SqT K H a xs | false => SqL K H a xs
def ItB (tp : Bool) (h : Heap) (it a : Addr) (i : Nat) : Prop := match tp with | true => h.IsTupleIter it a i | false => h.IsListIter it a i
theorem ItB.at {tp : Bool} {h h' : Heap} {it a : Addr} {i : Nat} (x : ItB tp h it a i) (k : ∀ o, h.get? it = some o → h'.get? it = some o) : ItB tp h' it a i := by
  cases tp
  · exact Heap.IsListIter.at x k
  · exact Heap.IsTupleIter.at x k
end Vf
namespace Vf
open PySem L2
/-! ### enumerate, by data -/
def seqD : D → Option (List D)
  | .lst xs => some xs | .scr xs => some xs | .tup xs => some xs | _ => none
def dEn (k0 : Int) (t : Tg) (ds : List D) : List TD := ds.mapIdx fun i d => (t, .tup [.int (k0 + (i : Nat)), d])
/-- in a for: what stays as it is -/
def itEn (k0 : Int) (r : TD) : Option (List TD) := match r.1 with
  | .N => (seqD r.2).map (dEn k0 .N)
  | .B => (seqD r.2).map (dEn k0 .B)
  | _ => none
/-! ### new dicts -/
end Vf
namespace Vf
open PySem L2
/-! ### {k: v for ..} -/
end Vf
namespace L2
open PySem PySem.Spec PyProof.Rows
end L2
namespace Vf
open PySem L2
end Vf
namespace Vf
open PySem L2
/-! ### dicts of the module -/
end Vf
/-! ### set(xs) of keys of one kind, any number of them; its length -/
namespace Vf
open PySem PySem.Spec PyProof.Rows L2
end Vf
namespace Vf
open PySem PySem.Spec PyProof.Rows L2
/-! ### len(set(e)) -/
end Vf
namespace Vf
open PySem L2
/-! ### comprehensions over trees whose items see the table -/
noncomputable def lcF (ct : FXT) (fe : FX) (s : TD → Ev → Option Ev) (sl : List Sl) : List TD → Tb → Option (List HV × Tb)
  | [], T => some ([], T)
  | y :: ys, T => if okT y.1 then (s y ⟨sl, T⟩).bind fun e => (valX (ct e)).bind fun k => if k.1 then (valX (fe ⟨e.s, k.2⟩)).bind fun v => (lcF ct fe s sl ys v.2).map fun r => (v.1 :: r.1, r.2) else lcF ct fe s sl ys k.2 else none
noncomputable def xLcF (fi : FI) (s : TD → Ev → Option Ev) (ct : FXT) (fe : FX) (vs : List Nat) : FX := fun env => if ownFree env.s then (fi env).bind fun items => if items.length ≤ lim then (lcF ct fe s (wipeE env vs).s items env.t).map fun r => .val (.ob r.2.length) (r.2 ++ [some (.lst r.1)]) else none else none
theorem lcF_len {ct : FXT} {fe : FX} {s : TD → Ev → Option Ev} {sl : List Sl} : ∀ {ys : List TD} {T : Tb} {r : List HV × Tb}, lcF ct fe s sl ys T = some r → r.1.length ≤ ys.length
  | [], T, r, h => by cases h; exact Nat.le_refl _
  | y :: ys, T, r, h => by
    unfold lcF at h
    split at h
    · obtain ⟨e, _, h1⟩ := Option.bind_eq_some_iff.mp h
      obtain ⟨k, _, h2⟩ := Option.bind_eq_some_iff.mp h1
      split at h2
      · obtain ⟨v, _, h3⟩ := Option.bind_eq_some_iff.mp h2
        obtain ⟨r', h4, rfl⟩ := Option.map_eq_some_iff.mp h3
        exact Nat.succ_le_succ (lcF_len h4)
      · exact Nat.le_succ_of_le (lcF_len h2)
    · cases h
theorem rv_lend {Z : Zc} {w : Wd} {D : Addr} {o : HO} (hb : w.B D = none) : ∀ {r : TD} {v : V}, okT r.1 = true → RV Z w r v → RV Z (lend w D o) r v
  | (.N, _), _, _, h => h
  | (.B, _), _, _, h => Rp.mono (same_up1 (.refl _) hb) h
  | (.T, _), _, h, _ => by cases h
  | (.O, _), _, h, _ => by cases h
section
variable {X : Cx} {cl : Str → Option Addr} {W : WX} {tg iter elt : Expr} {ifs : List Expr} {g : FX} {pos : Pos} {is : List Nat} {s : TD → Ev → Option Ev} {ct : FXT} {scope : Scope} {fi : FI}
theorem lcF_rd {vs : List Nat} (hsub : is.all (fun i => vs.contains i) = true) {σ : L2.St} {H : Hp} {Q : VK} (hh : tX (zx X cl) W (xLcF fi s ct g vs) σ H Q) :
    tLc (tI Gs (zx X cl) fi) (tG (zx X cl) is s) (tXT (zx X cl) W0 ct) (tX (zx X cl) W0 g) vs σ H Q := by
  obtain ⟨env, w, r, e, k, hr, q⟩ := hh
  subst e
  obtain ⟨es, et⟩ := env
  unfold xLcF at hr
  split at hr
  · rename_i hof
    obtain ⟨items, hit, h4⟩ := Option.bind_eq_some_iff.mp hr
    split at h4
    · rename_i hlen
      obtain ⟨⟨res, T9⟩, h5, h6⟩ := Option.map_eq_some_iff.mp h4
      subst h6
      refine ⟨⟨es, et⟩, w, items, rfl, k, hit, fun J w1 g1 wk D hD => ?_⟩
      have k1 := k.mono g1
      have kw : Wok (zx X cl) ⟨(wipeE ⟨es, et⟩ vs).s, et⟩ (wipe σ vs) w1 := by
        have h9 := wok_wipe k1 vs
        have ht := wipeE_t ⟨es, et⟩ vs
        cases q : wipeE ⟨es, et⟩ vs with
        | mk a b => rw [q] at ht h9; cases ht; exact h9
      have no := own_wipe (T := et) (ownFree_no hof) vs
      dsimp only at h5
      generalize (wipeE ⟨es, et⟩ vs).s = sl at h5 kw no
      have hDm : D ∉ w1.m := fun z => k1.tb.hh D z hD
      have gp : Gr w1 (w1.put .T D (.lst [])) := Gr.put k1.wf hD
      have hlcl := lcF_len h5
      dsimp only at hlcl
      let Inv9 : Nat → Nat → Hp → Prop := fun i m H' => ∃ (w' : Wd) (T' : Tb) (acc : List V) (hacc : List HV) (rem : List HV × Tb), w'.H = H' ∧ Gs w1 w' ∧ TbOk (zx X cl) T' w' ∧ w'.H D = some (.lst acc) ∧ w'.B D = none ∧ D ∉ w'.m ∧ HvsOk (zx X cl) w' acc hacc ∧ m = items.length - i ∧ i ≤ items.length ∧ lcF ct g s sl (items.drop i) T' = some rem ∧ hacc ++ rem.1 = res ∧ rem.2 = T9
      refine ⟨Inv9, ⟨items.length, w1.put .T D (.lst []), et, [], [], _, put_H, gp.gs k1.wf, k1.tb.mono gp, (by rw [put_H, upd_same]), k1.wf.bh.free hD, hDm, trivial, rfl, Nat.zero_le _, h5, rfl, rfl⟩, ?_⟩
      rintro i m H' ⟨w', T', acc, hacc, rem, rfl, gs, t', hA, hB, hm, hR, rfl, hi, hf, hys, hT⟩
      by_cases hlt : i < items.length
      · obtain ⟨y, hr⟩ : ∃ r, items[i]? = some r := ⟨items[i], List.getElem?_eq_getElem hlt⟩
        have hd : items.drop i = y :: items.drop (i + 1) := by
          rw [List.drop_eq_getElem_cons hlt]
          rw [List.getElem?_eq_getElem hlt] at hr
          rw [Option.some.inj hr]
        rw [hd] at hf
        unfold lcF at hf
        split at hf
        · rename_i hok
          obtain ⟨e1, h7, h8⟩ := Option.bind_eq_some_iff.mp hf
          obtain ⟨⟨kk, T1⟩, h9, h10⟩ := Option.bind_eq_some_iff.mp h8
          obtain ⟨go, yl⟩ := wk.go i y w' gs hr
          refine .inr ⟨go, fun H2 => ∃ m', m' < items.length - i ∧ Inv9 (i + 1) m' H2, fun _ z => z, fun v H2 hy => ?_⟩
          obtain ⟨w2, g2, rfl, r2⟩ := yl v H2 hy
          have gs2 : Gs w1 w2 := gs.trans (g2.gs gs.wf)
          have hA2 := g2.h _ _ hA
          have hB2 := own_mono g2 hA hB
          have hm2 : D ∉ w2.m := by rw [g2.m]; exact hm
          have t2 := t'.mono g2
          have hR2 : HvsOk (zx X cl) w2 acc hacc := HvsOk.mono g2.n (by rw [g2.m]; exact List.prefix_refl _) hR
          have gl := lend_gs gs2.wf hA2 hB2
          have kL : Wok (zx X cl) ⟨sl, T'⟩ (wipe σ vs) (lend w2 D (.lst acc)) := wok_slots kw no (gs2.trans gl) (lend_tb t2 hm2)
          have hid : ∀ w4 : Wd, w4.H D = some (.lst acc) → (back w4 D (.lst acc)).H = w4.H := fun w4 h => by
            funext a
            show upd w4.H D (.lst acc) a = w4.H a
            by_cases q : a = D
            · subst q; rw [upd_same, h]
            · rw [upd_ne q]
          refine ⟨⟨sl, T'⟩, lend w2 D (.lst acc), y, e1, rfl, kL, rv_lend hB2 hok r2, h7, fun σ3 w3 g3 k3 f3 l3 => ⟨?_, e1, w3, .val kk T1, rfl, k3, valX_some h9, fun w4 g4 k4 => ?_⟩⟩
          · have hl : σ3.length = σ.length := l3.trans (wipe_length σ vs)
            exact wipe_eq hl hsub f3
          · have g34 : Gs (lend w2 D (.lst acc)) w4 := (g3.gs kL.wf).trans g4
            dsimp only at h10
            cases kk with
            | false =>
              obtain ⟨b1, b2, b3, b4, b5⟩ := lend_back (o' := .lst acc) gs2.wf hA2 hB2 hm2 g34 k4.tb
              exact ⟨_, by omega, back w4 D (.lst acc), T1, acc, hacc, rem, hid w4 b1, gs2.trans b4, b5, upd_same, b3, b2, HvsOk.mono (w := w2) (w' := back w4 D (.lst acc)) b4.n b4.m hR2, rfl, hlt, h10, hys, hT⟩
            | true =>
              obtain ⟨⟨u, T2⟩, h11, h12⟩ := Option.bind_eq_some_iff.mp h10
              obtain ⟨rem', h13, rfl⟩ := Option.map_eq_some_iff.mp h12
              refine ⟨⟨e1.s, T1⟩, w4, .val u T2, rfl, k4, valX_some h11, fun v5 w5 g5 k5 hu => ?_⟩
              obtain ⟨b1, b2, b3, b4, b5⟩ := lend_back (o' := .lst (acc ++ [v5])) gs2.wf hA2 hB2 hm2 (g34.trans g5) k5.tb
              refine ⟨acc, b1, ?_, _, by omega, back w5 D (.lst (acc ++ [v5])), T2, acc ++ [v5], hacc ++ [u], rem', rfl, gs2.trans b4, b5, upd_same, b3, b2, ?_, rfl, hlt, h13, by rw [List.append_assoc]; exact hys, hT⟩
              · have l1 := hR.length
                have l2 : hacc.length ≤ res.length := by rw [← hys]; simp
                exact lim_lt (by omega)
              · exact (HvsOk.mono (w := w2) (w' := back w5 D (.lst (acc ++ [v5]))) b4.n b4.m hR2).app ⟨HvOk.mono (w := w5) (w' := back w5 D (.lst (acc ++ [v5]))) (.refl _) (List.prefix_refl _) hu, trivial⟩
        · cases hf
      · have e : i = items.length := by omega
        subst e
        rw [List.drop_length] at hf
        cases hf
        rw [List.append_nil] at hys
        subst hys
        have hT : T' = T9 := hT
        subst hT
        refine .inl ⟨wk.stop w' gs, ?_⟩
        have kf : Wok (zx X cl) ⟨es, T'⟩ σ w' := wok_slots k1 (ownFree_no hof) gs t'
        obtain ⟨k8, g8⟩ := enter kf (ownFree_no hof) hA hB hm hR
        refine q (.ref D) ⟨w'.N, w'.B, w'.H, w'.m ++ [D]⟩ (((g1.gs k.wf).trans gs).trans g8) k8 ⟨D, rfl, ?_⟩
        have hlen : T'.length = w'.m.length := t'.len
        show (w'.m ++ [D])[T'.length]? = _
        rw [hlen, List.getElem?_append_right (Nat.le_refl _)]
        simp
    · cases h4
  · cases hr
theorem jx_lcF (own : List (Str × Nat)) (hX : XS X) (hi : PI X tg iter (tI Gs (zx X cl) fi)) (ok : blkC X.N X.env.scope scope own = true)
    (hg : ∀ (s' : Shared) (H : Hp) (C : Addr) (l : List (Str × Addr)) (fp : List Addr), PG (X.blk s' H scope (compEnvC scope l C X.env) fp) tg (tG (zx X cl) is s))
    (ht : ∀ (s' : Shared) (H : Hp) (C : Addr) (l : List (Str × Addr)) (fp : List Addr), PTs (X.blk s' H scope (compEnvC scope l C X.env) fp) ifs (tXT (zx X cl) W0 ct))
    (he : ∀ (s' : Shared) (H : Hp) (C : Addr) (l : List (Str × Addr)) (fp : List Addr), PE (X.blk s' H scope (compEnvC scope l C X.env) fp) elt (tX (zx X cl) W0 g))
    (hsub : is.all (fun i => (own.map (·.2)).contains i) = true := by rfl) (hs : ∀ x, foldedSetIterable iter X.env x = pure x := by intro _; rfl) :
    PE X (.ListComp elt [⟨tg, iter, ifs, 0⟩] scope pos) (tX (zx X cl) W (xLcF fi s ct g (own.map (·.2)))) :=
  pe_w (pe_lc hX.calm hX.nd hi (blkOk_by ok) hg ht he hs) fun _ _ _ hh => lcF_rd hsub hh
end
/-! ### f(*e), C(*e) -/
def xStar (f : FX) : FXA := fun env => bX (f env) fun x T => (srcM T x).map fun M => .val (mobI M) T
section
open PySem.Spec PyProof.Rows
variable {X : Cx} {cl : Str → Option Addr} {W : WX} {e : Expr} {f : FX} {gg : List HV → Tb → Option (XRes HV)} {ps : List Str} {k j : Nat} {x c : Str} {p sp_ pos : Pos}
theorem xStar_rd {σ : L2.St} {w : Wd} {env : Ev} {q : XRes HV} {g : List HV → Tb → Option (XRes HV)} {R : List V → Hp → Prop} (kk : Wok (zx X cl) env σ w) (h : bX (xStar f env) g = some q) (l : Late (zx X cl) W env.s σ w q)
    (hR : ∀ xs T vs w1, g xs T = some q → Gs w w1 → Wok (zx X cl) ⟨env.s, T⟩ σ w1 → HvsOk (zx X cl) w1 vs xs → R vs w1.H) :
    tX (zx X cl) W f σ w.H fun y H1 => ∃ a xs, y = V.ref a ∧ (SqT X.K H1 a xs ∨ SqL X.K H1 a xs) ∧ R xs H1 := by
  have h' : bX (f env) (fun x T => (srcM T x).bind fun M => g (mobI M) T) = some q := by
    unfold xStar bX at h
    unfold bX
    rw [← h]
    cases f env with
    | none => rfl
    | some r =>
      cases r with
      | exc c ns xs T => rfl
      | val x T =>
        show (srcM T x).bind _ = Option.bind ((srcM T x).map _) _
        cases srcM T x <;> rfl
  refine tX_bind kk h' l fun y T v w1 h1 g1 k1 hy => ?_
  obtain ⟨M, hM, h2⟩ := Option.bind_eq_some_iff.mp h1
  rcases srcM_kind hM with ⟨xs, rfl⟩ | ⟨xs, rfl⟩
  · obtain ⟨b, vs, rfl, h3, h4⟩ := src_lst k1.wf k1.tb hy hM
    exact ⟨b, vs, rfl, .inr h3, hR xs T vs w1 h2 g1 k1 h4⟩
  · obtain ⟨b, vs, rfl, h3, h4⟩ := src_tup k1.wf k1.tb hy hM
    exact ⟨b, vs, rfl, .inl h3, hR xs T vs w1 h2 g1 k1 h4⟩
theorem jx_callS (C : CaX X.prog X.w X.K X.mg X.base cl k x ps gg) (tk : Takes X W) (hr : Room j X.A) (he : PE X e (tX (zx X cl) W f)) (hkj : k ≤ j := by decide) (hg : Gl X x := by rfl) (hdb : (x == ("__debug__" : Str)) = false := by decide)
    (hst : starEach [.Starred e sp_] X.env = [(true, eval e X.env)] := by rfl) : PE X (.Call (.Name x p) [.Starred e sp_] [] pos) (tX (zx X cl) W (xCall gg (xStar f))) := by
  obtain ⟨fa, fd, F, hm, hk, hb⟩ := C.ex
  refine ⟨fun pins s σ H Q I hh => ?_⟩
  obtain ⟨env, w, r, eH, kk, h, q⟩ := hh
  subst eH
  have rd := xStar_rd (W := W) (R := fun vs H1 => spX (zx X cl) gg vs H1 Q (WE W σ)) kk h q.late fun xs T vs w1 h1 g1 k1 hxs =>
    spX_at k1 hxs h1 ((q.late.mono g1).fin fun y T' e => by subst e; exact fun v w' g' k' hv => q v w' (g1.trans g') k' hv)
  refine wpAny_Call_Name_kw (ld_glob (Q := _) I hg hm ?_ hdb)
  refine PySem.W.callWith_S (h₀ := X.base) I.ok.mod.kin hk (thn (he.run pins s σ _ _ I rd) fun v s1 ⟨y, H1, I1, ry, a, xs, ey, hxs, hsp⟩ => ?_) hst
  subst ey
  obtain rfl : v = Value.ref a := ry
  exact StX.star_any I1 hxs fun us s2 I2 rv => ⟨I2.kIn, run_fnS F (hr.mono hkj) hb (passAt tk σ) I2 rv hsp⟩
end
/-! ### a try whose body raises nothing -/
section
variable {X : Cx} {cl : Str → Option Addr} {W : WX} {A : SX} {body : List Stmt} {h₀ : ExceptHandler} {hs : List ExceptHandler} {pos : Pos} {j : Nat}
theorem XS.nox (h : XS X) : XS X.nox := ⟨h.calm, h.nd, h.hu⟩
end
end Vf
namespace Vf
open PySem L2
/-! ### f-strings -/
/-! ### xs.extend(ys), both in the table -/
section
variable {X : Cx} {cl : Str → Option Addr} {W : WX} {a b c e : Expr} {es : List Expr} {f g h : FX} {fa : FXA} {ct dt : FXT} {pos : Pos} {gg : List HV → Tb → Option (XRes HV)} {ps : List Str} {k j : Nat}
/-! ### join over the table -/
/-! ### f(a = .., b = ..) of a def that sees the table -/
structure CaXK (P : Program) (w : World) (K : PySem.W.Frag) (mg : Str → Option Value) (base : Heap) (cl : Str → Option Addr) (k : Nat) (x : Str) (ps ks : List Str) (π : List Nat) (g : List HV → Tb → Option (XRes HV)) : Prop where
  ex : ∃ f fd, FnOk P w K mg base (L2.CX P w) k f fd ps (spX ⟨K, cl⟩ g) ∧ mg x = some (.ref f) ∧ PySem.W.keepIn K (.ref f) = true ∧ KwOk fd ps ks 0 π
def xCallK (gg : List HV → Tb → Option (XRes HV)) (ks : List Str) (π : List Nat) (fa : FXA) : FX := fun env => bX (fa env) fun xs T => if xs.length = ks.length then gg (permH π xs) T else none
theorem jx_callK {x : Str} {p : Pos} {kws : List Keyword} {ks : List Str} {π : List Nat} (C : CaXK X.prog X.w X.K X.mg X.base cl k x ps ks π gg) (tk : Takes X W) (hr : Room j X.A) (hkw : PK X kws (tXA (zx X cl) W fa)) (hks : (backToKw pos (keywordEach kws X.env)).filterMap (·.1) = ks := by rfl) (hkj : k ≤ j := by decide) (hg : Gl X x := by rfl)
    (hdb : (x == ("__debug__" : Str)) = false := by decide) (hall : (backToKw pos (keywordEach kws X.env)).all (·.1.isSome) = true := by rfl)
    (hpl : ((backTo pos (starEach [] X.env)).any (·.1) || (backToKw pos (keywordEach kws X.env)).any (·.1.isNone)) = false := by rfl) : PE X (.Call (.Name x p) [] kws pos) (tX (zx X cl) W (xCallK gg ks π fa)) := by
  obtain ⟨f, fd, F, hm, hk, hb⟩ := C.ex
  refine ⟨fun pins s σ H Q I hh => ?_⟩
  refine wpAny_Call_Name_kw (ld_glob (Q := _) I hg hm ?_ hdb)
  refine PySem.W.callWith_KW0 (h₀ := X.base) I.ok.mod.kin hk hall ?_ hpl
  obtain ⟨env, w, r, e, kk, h, q⟩ := hh
  subst e
  have hh : tXA (zx X cl) W fa σ w.H fun zs H2 => zs.length = ks.length ∧ spX (zx X cl) gg (permW π zs) H2 Q (WE W σ) := by
    refine tXA_bind kk h q.late fun xs T1 vs w1 h1 g1 k1 hxs => ?_
    split at h1
    · rename_i hl
      exact ⟨by rw [hxs.length]; exact hl, spX_at k1 (hvs_perm hxs π) h1 ((q.late.mono g1).fin fun x T' e => by subst e; exact fun v w' g' k' hv => q v w' (g1.trans g') k' hv)⟩
    · cases h1
  refine thn (hkw.run pos pins s σ w.H _ I hh) fun ws s2 ⟨zs, H2, I2, rz, l1, q2⟩ => ⟨I2.kIn, ?_⟩
  rw [hks]
  have r2 : Vals (permW π zs) (permV π ws) := vals_perm rz π
  have b := hb.to s2 [] ws rfl (by rw [← rz.length]; exact l1)
  rw [List.nil_append] at b
  refine wpAny_call (codeAny_mono (F.run X.A X.stack s2 H2 ⟨[], ks.zip ws⟩ (permV π ws) _ Q (WE W σ) (hr.mono hkj) I2.env0 b r2 q2) fun rr s' hq => ?_)
  cases rr with
  | error e => exact passAt tk σ pins _ _ e s' I2 hq
  | ok fl =>
    cases fl with
    | ret u => exact I2.after hq
    | next => exact False.elim hq
    | brk => exact False.elim hq
    | cont => exact False.elim hq
end
end Vf
namespace Vf
open PySem PySem.Spec PyProof.Rows L2
/-! ### list(reversed(xs)) of a tuple -/
end Vf
namespace Vf
open PySem L2
/-! ### isinstance of an own class, == by an own __eq__ -/
def isoX (c : Str) (x : HV) (T : Tb) : Option (XRes HV) := (insOf T x).bind fun q => if q.1 = c then some (.val (.pu (.bl true)) T) else none
def xIso (c : Str) (f : FX) : FX := fun env => bX (f env) (isoX c)
def boolR : XRes HV → Option (XRes HV)
  | .val (.pu (.bl b)) T => some (.val (.pu (.bl b)) T)
  | _ => none
def eqoK (c : Str) (gg : List HV → Tb → Option (XRes HV)) (x y : HV) (T : Tb) : Option (XRes HV) := (insOf T x).bind fun q => (insOf T y).bind fun p => if q.1 = c ∧ p.1 = c then (gg [x, y] T).bind boolR else none
def xEqo (c : Str) (gg : List HV → Tb → Option (XRes HV)) (f g : FX) : FX := fun env => bX (f env) fun x T1 => bX (g ⟨env.s, T1⟩) fun y T2 => eqoK c gg x y T2
section
variable {c : Str} {f g : FX} {gg : List HV → Tb → Option (XRes HV)} {env : Ev}
@[simp] theorem xIso_eq : xIso c f env = (f env).bind (kX (isoX c)) := rfl
@[simp] theorem xEqo_eq : xEqo c gg f g env = (f env).bind (kX fun x T1 => (g ⟨env.s, T1⟩).bind (kX fun y T2 => eqoK c gg x y T2)) := rfl
end
/-! ### list + list, a new list of the table -/
def catM (T : Tb) : HV → Option (List HV)
  | .pu (.lst ds) => some (ds.map .pu)
  | .pu _ => none
  | .ob k => match T[k]? with
    | some (some (.lst xs)) => some xs
    | _ => none
def catK (x y : HV) (T : Tb) : Option (XRes HV) := (catM T x).bind fun xs => (catM T y).bind fun ys => if xs.length + ys.length ≤ lim then some (.val (.ob T.length) (T ++ [some (.lst (xs ++ ys))])) else none
def xCat (f g : FX) : FX := fun env => bX (f env) fun x T1 => bX (g ⟨env.s, T1⟩) fun y T2 => catK x y T2
@[simp] theorem xCat_eq {f g : FX} {env : Ev} : xCat f g env = (f env).bind (kX fun x T1 => (g ⟨env.s, T1⟩).bind (kX fun y T2 => catK x y T2)) := rfl
end Vf
namespace Vf
open PySem L2
/-! ### for over a range of what the table tells -/
abbrev FIX := Ev → Option (XRes (List TD))
noncomputable def r1X (x : HV) (T : Tb) : Option (XRes (List TD)) := match x with | .pu d => (r1K (.N, d)).map fun is => .val is T | _ => none
noncomputable def xR1 (f : FX) : FIX := fun env => bX (f env) r1X
noncomputable def r2X (x y : HV) (T : Tb) : Option (XRes (List TD)) := match x, y with | .pu d, .pu e => (r2K (.N, d) (.N, e)).map fun is => .val is T | _, _ => none
noncomputable def xR2 (f g : FX) : FIX := fun env => bX (f env) fun x T1 => bX (g ⟨env.s, T1⟩) fun y T2 => r2X x y T2
def zForX (fi : FIX) (s : TD → Ev → Option Ev) (A : SX) : SX := fun env => bS env (fi env) fun items T => forZ A s items ⟨env.s, T⟩
@[simp] theorem zForX_eq {fi : FIX} {s : TD → Ev → Option Ev} {A : SX} {env : Ev} : zForX fi s A env = (fi env).bind (kS env.s fun items T => forZ A s items ⟨env.s, T⟩) := rfl
@[simp] theorem xR1_eq {f : FX} {env : Ev} : xR1 f env = (f env).bind (kX r1X) := rfl
@[simp] theorem xR2_eq {f g : FX} {env : Ev} : xR2 f g env = (f env).bind (kX fun x T1 => (g ⟨env.s, T1⟩).bind (kX fun y T2 => r2X x y T2)) := rfl
@[simp] theorem r1X_pu {d : D} {T : Tb} : r1X (.pu d) T = (r1K (.N, d)).map fun is => .val is T := rfl
@[simp] theorem r2X_pu {d e : D} {T : Tb} : r2X (.pu d) (.pu e) T = (r2K (.N, d) (.N, e)).map fun is => .val is T := rfl
end Vf
namespace Vf
open PySem L2
/-! ### slices of what the table holds -/
def cutH (xs : List HV) (lo hi : Option Int) : List HV := (xs.drop (HT.sIx xs.length 0 lo)).take (HT.sIx xs.length xs.length hi - HT.sIx xs.length 0 lo)
def slX (x : HV) (T : Tb) (lo hi : Option Int) : Option (XRes HV) := match x with
  | .pu d => (slD (.N, d) lo hi).bind fun r => resX r T
  | .ob k => match T[k]? with
    | some (some (.lst xs)) => some (.val (.ob T.length) (T ++ [some (.lst (cutH xs lo hi))]))
    | _ => none
def xSlc (f : FX) (l u : FO) : FX := fun env => bX (f env) fun x T => (l ⟨env.s, T⟩).bind fun lo => (u ⟨env.s, T⟩).bind fun hi => slX x T lo hi
@[simp] theorem xSlc_eq {f : FX} {l u : FO} {env : Ev} : xSlc f l u env = (f env).bind (kX fun x T => (l ⟨env.s, T⟩).bind fun lo => (u ⟨env.s, T⟩).bind fun hi => slX x T lo hi) := rfl
@[simp] theorem slX_pu {d : D} {T : Tb} {lo hi : Option Int} : slX (.pu d) T lo hi = (slD (.N, d) lo hi).bind fun r => resX r T := rfl
end Vf
namespace Vf
open PySem L2
/-! ### comprehensions over a range of what the table tells -/
noncomputable def xLcR (fi : FIX) (s : TD → Ev → Option Ev) (ct : FXT) (fe : FX) (vs : List Nat) : FX := fun env => if ownFree env.s then bX (fi env) fun items T => if items.length ≤ lim then (lcF ct fe s (wipeE ⟨env.s, T⟩ vs).s items T).map fun r => .val (.ob r.2.length) (r.2 ++ [some (.lst r.1)]) else none else none
@[simp] theorem xLcR_eq {fi : FIX} {s : TD → Ev → Option Ev} {ct : FXT} {fe : FX} {vs : List Nat} {l : List Sl} {T0 : Tb} : xLcR fi s ct fe vs ⟨l, T0⟩ = if ownFree l then (fi ⟨l, T0⟩).bind (kX fun items T => if items.length ≤ lim then (lcF ct fe s (wipeE ⟨l, T⟩ vs).s items T).map fun r => .val (.ob r.2.length) (r.2 ++ [some (.lst r.1)]) else none) else none := rfl
end Vf
namespace Vf
open PySem L2
/-! ### slices whose bounds the table tells -/
abbrev FXO := Ev → Option (XRes (Option Int))
def xNoP : FXO := fun env => some (.val none env.t)
def ptX (x : HV) (T : Tb) : Option (XRes (Option Int)) := match x with | .pu (.int i) => some (.val (some i) T) | _ => none
def xPt (f : FX) : FXO := fun env => bX (f env) ptX
def xSlx (f : FX) (l u : FXO) : FX := fun env => bX (f env) fun x T => bX (l ⟨env.s, T⟩) fun lo T1 => bX (u ⟨env.s, T1⟩) fun hi T2 => slX x T2 lo hi
@[simp] theorem xNoP_eq {env : Ev} : xNoP env = some (.val none env.t) := rfl
@[simp] theorem xPt_eq {f : FX} {env : Ev} : xPt f env = (f env).bind (kX ptX) := rfl
@[simp] theorem ptX_int {i : Int} {T : Tb} : ptX (.pu (.int i)) T = some (.val (some i) T) := rfl
@[simp] theorem xSlx_eq {f : FX} {l u : FXO} {env : Ev} : xSlx f l u env = (f env).bind (kX fun x T => (l ⟨env.s, T⟩).bind (kX fun lo T1 => (u ⟨env.s, T1⟩).bind (kX fun hi T2 => slX x T2 lo hi))) := rfl
end Vf
namespace Vf
open PySem L2
/-! ### list(range(n)) -/
def rngD (n : Int) : List D := (List.range n.toNat).map fun k => .int ((k : Nat) : Int)
noncomputable def rgK (r : TD) : Option (Tg × List D) := match r.2 with | .int n => cif (-4611686018427387904 ≤ n ∧ n ≤ 16777216) (some (.N, rngD n)) none | _ => none
noncomputable def sLRg (f : FE) : FL := fun env => (f env).bind rgK
@[simp] theorem sLRg_eq {f : FE} {env : Ev} : sLRg f env = (f env).bind rgK := rfl
@[simp] theorem Ok_rgK {t : Tg} {n : Int} {Q : Tg × List D → Prop} : Ok (rgK (t, .int n)) Q ↔ (-4611686018427387904 ≤ n ∧ n ≤ 16777216) ∧ Q (.N, rngD n) := by
  unfold rgK
  rw [Ok_cif, Ok_some]
end Vf
namespace Vf
open PySem L2 PyProof.Rows
/-! ### a dict of the module: its length, its type -/
end Vf
namespace Vf
open PySem L2
/-! ### enumerate of what the table tells -/
def enX (k0 : Int) (x : HV) (T : Tb) : Option (XRes (List TD)) := match x with | .pu d => (itEn k0 (.N, d)).map fun is => .val is T | _ => none
def xEn (k0 : Int) (f : FX) : FIX := fun env => bX (f env) (enX k0)
@[simp] theorem xEn_eq {k0 : Int} {f : FX} {env : Ev} : xEn k0 f env = (f env).bind (kX (enX k0)) := rfl
@[simp] theorem enX_pu {k0 : Int} {d : D} {T : Tb} : enX k0 (.pu d) T = (itEn k0 (.N, d)).map fun is => .val is T := rfl
/-! ### list(range(i, j)) -/
def rngD2 (i j : Int) : List D := (List.range (j - i).toNat).map fun k => .int (i + (k : Nat))
noncomputable def rgK2 (x y : TD) : Option (Tg × List D) := match x.2 with
  | .int i => match y.2 with
    | .int j => cif (-4611686018427387904 ≤ i ∧ i ≤ 16777216 ∧ -4611686018427387904 ≤ j ∧ j ≤ 16777216 ∧ j - i ≤ 16777216) (some (.N, rngD2 i j)) none
    | _ => none
  | _ => none
noncomputable def sLRg2 (f g : FE) : FL := fun env => (f env).bind fun x => (g env).bind fun y => rgK2 x y
@[simp] theorem sLRg2_eq {f g : FE} {env : Ev} : sLRg2 f g env = (f env).bind fun x => (g env).bind fun y => rgK2 x y := rfl
@[simp] theorem Ok_rgK2 {t u : Tg} {i j : Int} {Q : Tg × List D → Prop} : Ok (rgK2 (t, .int i) (u, .int j)) Q ↔ (-4611686018427387904 ≤ i ∧ i ≤ 16777216 ∧ -4611686018427387904 ≤ j ∧ j ≤ 16777216 ∧ j - i ≤ 16777216) ∧ Q (.N, rngD2 i j) := by
  unfold rgK2
  rw [Ok_cif, Ok_some]
/-! ### f() of a def that sees the table; list(d) of a dict of the table -/
section
variable {X : Cx} {cl : Str → Option Addr} {W : WX} {a : Expr} {f : FX} {p pos : Pos} {k j : Nat} {ps : List Str} {gg : List HV → Tb → Option (XRes HV)}
def keyHV : Key → HV | .inl i => .pu (.int i) | .inr z => .pu (.str z)
def keysK (x : HV) (T : Tb) : Option (XRes HV) := match x with
  | .ob n => match T[n]? with
    | some (some (.dic ks _)) => some (.val (.ob T.length) (T ++ [some (.lst (ks.map keyHV))]))
    | _ => none
  | _ => none
def xKeys (f : FX) : FX := fun env => bX (f env) keysK
@[simp] theorem xKeys_eq {f : FX} {env : Ev} : xKeys f env = (f env).bind (kX keysK) := rfl
end
end Vf
namespace Vf
open PySem L2 PySem.Spec PyProof.Rows
/-! ### xs.extend(ys), ys a list of the table or any tuple -/
def seqX (T : Tb) (y : HV) : Option (List HV) := match obLst T y with
  | some q => some q.2
  | none => (srcM T y).bind fun M => match M with | .tup ys => some ys | _ => none
def extA (x : HV) (as : List HV) (T : Tb) : Option (XRes HV) := match as with
  | [y] => (obLst T x).bind fun p => (seqX T y).bind fun ys => if p.2.length + ys.length ≤ lim then some (.val (.pu .non) (T.set p.1 (some (.lst (p.2 ++ ys))))) else none
  | _ => none
def xExtA (f : FX) (fa : FXA) : FX := fun env => bX (f env) fun x T1 => (isLst T1 x).bind fun _ => bX (fa ⟨env.s, T1⟩) fun xs T2 => extA x xs T2
@[simp] theorem xExtA_eq {f : FX} {fa : FXA} {env : Ev} : xExtA f fa env = (f env).bind (kX fun x T1 => (isLst T1 x).bind fun _ => (fa ⟨env.s, T1⟩).bind (kX fun xs T2 => extA x xs T2)) := rfl
end Vf
namespace Vf
open PySem L2 PySem.Spec PyProof.Rows
/-! ### xs.index(x), texts -/
def idxZ (z : Str) (ys : List Str) : Option Nat := ys.findIdx? fun y => decide (y = z)
@[simp] def sIdxT (ss : List Str) (g : FE) : FE := fun env => (g env).bind fun r => match r.2 with
  | .str z => (idxZ z ss).map fun j => (.N, .int (j : Nat))
  | _ => none
def xIdxT (ss : List Str) (f : FX) : FX := fun env => bX (f env) fun y T => match y with
  | .pu (.str z) => (idxZ z ss).map fun j => .val (.pu (.int (j : Nat))) T
  | _ => none
@[simp] theorem xIdxT_eq {ss : List Str} {f : FX} {env : Ev} : xIdxT ss f env = (f env).bind (kX fun y T => match y with
  | .pu (.str z) => (idxZ z ss).map fun j => .val (.pu (.int (j : Nat))) T
  | _ => none) := rfl
def isLs (T : Tb) (x : HV) : Option Unit := (srcM T x).bind fun M => match M with | .lst _ => some () | _ => none
def idxX (x : HV) (as : List HV) (T : Tb) : Option (XRes HV) := match as with
  | [.pu (.str z)] => (srcM T x).bind fun M => match M with
    | .lst xs => (pures xs).bind fun ds => (strsOf ds).bind fun ys => (idxZ z ys).map fun j => .val (.pu (.int (j : Nat))) T
    | _ => none
  | _ => none
def xIdx (f : FX) (fa : FXA) : FX := fun env => bX (f env) fun x T1 => (isLs T1 x).bind fun _ => bX (fa ⟨env.s, T1⟩) fun xs T2 => idxX x xs T2
@[simp] theorem xIdx_eq {f : FX} {fa : FXA} {env : Ev} : xIdx f fa env = (f env).bind (kX fun x T1 => (isLs T1 x).bind fun _ => (fa ⟨env.s, T1⟩).bind (kX fun xs T2 => idxX x xs T2)) := rfl
end Vf
namespace Vf
open PySem L2 PySem.Spec PyProof.Rows
/-! ### zip of two tuples, its pairs kept by a name -/
abbrev Zp (h : Heap) (z TI TO : Addr) (f0 : Value) (b : Bool) : Prop :=
  h.get? z = some { cls := .type "zip", dict := none, data := .fields #[f0, .bool b, .bool false, .ref TI, .ref TO], slots := #[] }
def F0 (f0 : Value) : Prop := f0 = .none ∨ ∃ a : Addr, f0 = rawInt (a : Int)
section
variable {prog : Program} {w : World} {A : Around} {E : Value → Shared → Prop} {s : Shared} {z TI TO i1 i2 l1 l2 : Addr} {f0 : Value} {b : Bool}
theorem zp_free {Q : Bool → Shared → Prop} (g : Zp s.heap z TI TO f0 b) (h0 : F0 f0) (ht : Q true s) (hf : ∀ h', Zp h' z TI TO f0 true → Heap.SameBut z s.heap h' → Q false { s with heap := h' }) :
    wpAny (model prog w) A (Builtin.SmallTypes.ownedTupleIsFree (.ref z)) Q E s := by
  unfold Builtin.SmallTypes.ownedTupleIsFree
  refine wpAny_bind (wpAny_field g rfl (x := f0) rfl ?_)
  rcases h0 with rfl | ⟨a, rfl⟩
  · exact wpAny_pure ht
  show wpAny (model prog w) A (loadIfAlive (Int.toNat (a : Int)) >>= _) Q E s
  refine wpAny_bind ?_
  have al : ∀ (R : Option Obj → Shared → Prop), R (s.heap.get? (Int.toNat (a : Int))) s → wpAny (model prog w) A (loadIfAlive (Int.toNat (a : Int))) R E s := fun R h => fun _ _ _ => h
  refine al _ ?_
  cases ho : s.heap.get? (Int.toNat (a : Int)) with
  | none => exact wpAny_pure ht
  | some o =>
    show wpAny (model prog w) A (field (.ref z) 1 >>= _) Q E s
    refine wpAny_bind (wpAny_field g rfl (x := .bool b) rfl ?_)
    cases b with
    | true => exact wpAny_pure (hf s.heap g (Heap.SameBut.refl z s.heap))
    | false =>
      show wpAny (model prog w) A (setField (.ref z) 1 (.bool true) >>= _) Q E s
      exact wpAny_bind (wpAny_setField_rec g (by simp) fun h' g' sb => wpAny_pure (hf h' g' sb))
theorem zp_item {k1 k2 : Nat} {xs ys : Array Value} {x y a0 b0 : Value} {Q : Value → Shared → Prop} (D : ZipApart z TI TO i1 i2 l1 l2) (g : Zp s.heap z TI TO f0 b) (h0 : F0 f0)
    (gI : IsPair s.heap TI (.ref i1) (.ref i2)) (gO : IsPair s.heap TO a0 b0) (j1 : s.heap.IsTupleIter i1 l1 k1) (j2 : s.heap.IsTupleIter i2 l2 k2) (t1 : s.heap.IsTuple l1 xs) (t2 : s.heap.IsTuple l2 ys)
    (ex : xs[k1]? = some x) (ey : ys[k2]? = some y)
    (q : ∀ h' f b', Zp h' z TI TO f b' → F0 f → (∃ u v, IsPair h' TO u v) → h'.IsTupleIter i1 l1 (k1 + 1) → h'.IsTupleIter i2 l2 (k2 + 1) → IsPair h' s.heap.objs.size x y →
      (∀ d o, d ≠ z → d ≠ TO → d ≠ i1 → d ≠ i2 → s.heap.get? d = some o → h'.get? d = some o) → Q (.ref s.heap.objs.size) { s with heap := h' }) : wpAny (model prog w) A (Builtin.«zip.__next__» ⟨[.ref z], []⟩) (fun fin s' => ∃ v, fin = .done (.ret v) ∧ Q v s') E s := by
  show wpAny (model prog w) A (field (.ref z) 2 >>= _) _ E s
  refine wpAny_bind (wpAny_field g rfl (x := .bool false) rfl ?_)
  show wpAny (model prog w) A (field (.ref z) 3 >>= _) _ E s
  refine wpAny_bind (wpAny_field g rfl (x := .ref TI) rfl ?_)
  refine wpAny_bind (wpAny_seqItems gI rfl ?_)
  show wpAny (model prog w) A (Builtin.SmallTypes.ownedTupleIsFree (.ref z) >>= _) _ E s
  refine wpAny_bind (zp_free g h0 ?_ fun hA gA sA => ?_)
  · -- free: the kept pair is filled again
    simp only [if_true]
    refine wpAny_bind (wpAny_rule ?_)
    refine wpAny_bind (wpAny_field g rfl (x := .ref TO) rfl ?_)
    refine wpAny_bind (wpAny_setField_rec g (by simp) fun hB gB sB => ?_)
    replace gB : Zp hB z TI TO .ellipsis b := gB
    refine wpAny_bind ?_
    simp only [List.forIn_cons, List.forIn_nil, List.zipIdx_cons, List.zipIdx_nil]
    refine wpAny_bind (wpAny_bind (wpAny_onRaise ?_))
    show wpAny (model prog w) _ (Builtin.SmallTypes.nextOf (.ref i1) >>= _) _ _ _
    refine wpAny_bind (RZ.nextOf_tuple_item (j1.extBut sB.extBut D.i1z) (t1.extBut sB.extBut D.l1z) ex fun hC jC sC => wpAny_pure ?_)
    have oC : IsPair hC TO a0 b0 := sC.extBut _ _ D.TOi1 (sB.extBut _ _ D.TOz gO)
    refine wpAny_bind (wpAny_seqItems oC rfl ?_)
    refine wpAny_bind (wpAny_updateSeq_pair oC fun hD oD sD => ?_)
    replace oD : IsPair hD TO x b0 := oD
    refine wpAny_bind (wpAny_letGo (wpAny_pure ?_))
    refine wpAny_bind (wpAny_bind (wpAny_onRaise ?_))
    show wpAny (model prog w) _ (Builtin.SmallTypes.nextOf (.ref i2) >>= _) _ _ _
    refine wpAny_bind (RZ.nextOf_tuple_item (((j2.extBut sB.extBut D.i2z).extBut sC.extBut D.i12.symm).extBut sD.extBut D.TOi2.symm) (((t2.extBut sB.extBut D.l2z).extBut sC.extBut D.l2i1).extBut sD.extBut D.l2TO) ey fun hF jF sF => wpAny_pure ?_)
    have oF : IsPair hF TO x b0 := sF.extBut _ _ D.TOi2 oD
    refine wpAny_bind (wpAny_seqItems oF rfl ?_)
    refine wpAny_bind (wpAny_updateSeq_pair oF fun hG oG sG => ?_)
    replace oG : IsPair hG TO x y := oG
    refine wpAny_bind (wpAny_letGo (wpAny_pure ?_))
    refine wpAny_pure ?_
    refine wpAny_bind (wpAny_seqItems oG rfl ?_)
    refine wpAny_bind (wpAny_newTuple ?_)
    have ez : hG.objs.size = s.heap.objs.size := by rw [sG.1, sF.1, sD.1, sC.1, sB.1]
    have gG : Zp hG z TI TO .ellipsis b := sG.extBut _ _ D.TOz.symm (sF.extBut _ _ D.i2z.symm (sD.extBut _ _ D.TOz.symm (sC.extBut _ _ D.i1z.symm gB)))
    have kG : ∀ c o, c ≠ z → c ≠ TO → c ≠ i1 → c ≠ i2 → s.heap.get? c = some o → hG.get? c = some o := fun c o n1 n2 n3 n4 e => sG.extBut _ _ n2 (sF.extBut _ _ n4 (sD.extBut _ _ n2 (sC.extBut _ _ n3 (sB.extBut _ _ n1 e))))
    have jG1 : hG.IsTupleIter i1 l1 (k1 + 1) := ((jC.extBut sD.extBut D.TOi1.symm).extBut sF.extBut D.i12).extBut sG.extBut D.TOi1.symm
    have jG2 : hG.IsTupleIter i2 l2 (k2 + 1) := jF.extBut sG.extBut D.TOi2.symm
    have zlt : z < hG.objs.size := Heap.lt_size gG
    show wpAny (model prog w) A (Builtin.SmallTypes.ownedTupleHandOut (.ref z) (.ref hG.objs.size) >>= _) _ E _
    refine wpAny_bind ?_
    unfold Builtin.SmallTypes.ownedTupleHandOut
    have gH : Zp (hG.push { cls := .type "tuple", data := .seq #[x, y] }) z TI TO .ellipsis b := Heap.get?_push_of_some _ gG
    refine wpAny_bind (wpAny_setField_rec gH (by simp) fun hI gI2 sI => ?_)
    replace gI2 : Zp hI z TI TO (rawInt hG.objs.size) b := gI2
    refine wpAny_setField_rec gI2 (by simp) fun hJ gJ sJ => ?_
    replace gJ : Zp hJ z TI TO (rawInt hG.objs.size) false := gJ
    have up : ∀ c o, c ≠ z → hG.get? c = some o → hJ.get? c = some o := fun c o n1 e => sJ.extBut _ _ n1 (sI.extBut _ _ n1 (Heap.get?_push_of_some _ e))
    have new : IsPair hJ hG.objs.size x y := sJ.extBut _ _ (Nat.ne_of_gt zlt) (sI.extBut _ _ (Nat.ne_of_gt zlt) (Heap.get?_push_size _ rfl))
    rw [ez] at gJ new
    refine wpAny_pure ⟨_, rfl, ?_⟩
    show Q (.ref hG.objs.size) _
    rw [ez]
    exact q hJ _ _ gJ (.inr ⟨_, rfl⟩) ⟨x, y, up _ _ D.TOz oG⟩ (jG1.at fun o e => up _ o D.i1z e) (jG2.at fun o e => up _ o D.i2z e) new fun c o n1 n2 n3 n4 e => up c o n1 (kG c o n1 n2 n3 n4 e)
  · -- the pair handed out last is still somebody's
    simp only [Bool.false_eq_true, if_false]
    have iA1 := j1.extBut sA.extBut D.i1z
    have iA2 := j2.extBut sA.extBut D.i2z
    have lA1 := t1.extBut sA.extBut D.l1z
    have lA2 := t2.extBut sA.extBut D.l2z
    refine wpAny_bind ?_
    rw [← Array.forIn_toList]
    simp only [List.forIn_cons, List.forIn_nil]
    refine wpAny_bind (wpAny_bind (wpAny_holding ?_))
    show wpAny (model prog w) _ (Builtin.SmallTypes.nextOf (.ref i1) >>= _) _ _ _
    refine wpAny_bind (RZ.nextOf_tuple_item iA1 lA1 ex fun hC jC sC => wpAny_pure ?_)
    refine wpAny_pure ?_
    refine wpAny_bind (wpAny_bind (wpAny_holding ?_))
    show wpAny (model prog w) _ (Builtin.SmallTypes.nextOf (.ref i2) >>= _) _ _ _
    refine wpAny_bind (RZ.nextOf_tuple_item (iA2.extBut sC.extBut D.i12.symm) (lA2.extBut sC.extBut D.l2i1) ey fun hF jF sF => wpAny_pure ?_)
    refine wpAny_pure (wpAny_pure ?_)
    refine wpAny_bind (wpAny_newTuple (hsz := by show 2 ≤ sizeLine; decide) ?_)
    have ez : hF.objs.size = s.heap.objs.size := by rw [sF.1, sC.1, sA.1]
    have gF : Zp hF z TI TO f0 true := sF.extBut _ _ D.i2z.symm (sC.extBut _ _ D.i1z.symm gA)
    have up : ∀ c o, c ≠ z → c ≠ i1 → c ≠ i2 → s.heap.get? c = some o → (hF.push { cls := .type "tuple", data := .seq #[x, y] }).get? c = some o := fun c o n1 n2 n3 e => Heap.get?_push_of_some _ (sF.extBut _ _ n3 (sC.extBut _ _ n2 (sA.extBut _ _ n1 e)))
    have jF1 : hF.IsTupleIter i1 l1 (k1 + 1) := jC.extBut sF.extBut D.i12
    refine wpAny_pure ⟨_, rfl, ?_⟩
    show Q (.ref hF.objs.size) _
    rw [ez]
    have new : IsPair (hF.push { cls := .type "tuple", data := .seq #[x, y] }) s.heap.objs.size x y := by rw [← ez]; exact Heap.get?_push_size _ rfl
    exact q _ f0 true (Heap.get?_push_of_some _ gF) h0 ⟨a0, b0, up _ _ D.TOz D.TOi1 D.TOi2 gO⟩ (jF1.at fun o e => Heap.get?_push_of_some _ e) (jF.at fun o e => Heap.get?_push_of_some _ e) new fun c o n1 n2 n3 n4 e => up c o n1 n3 n4 e
theorem zp_end {k1 k2 : Nat} {xs ys : Array Value} {a0 b0 : Value} {Q : PySem.Fin → Shared → Prop} (nh : A.handled = none) (D : ZipApart z TI TO i1 i2 l1 l2) (g : Zp s.heap z TI TO f0 b) (h0 : F0 f0)
    (gI : IsPair s.heap TI (.ref i1) (.ref i2)) (gO : IsPair s.heap TO a0 b0) (j1 : s.heap.IsTupleIter i1 l1 k1) (j2 : s.heap.IsTupleIter i2 l2 k2) (t1 : s.heap.IsTuple l1 xs) (t2 : s.heap.IsTuple l2 ys)
    (last : xs[k1]? = none ∨ ys[k2]? = none)
    (qE : ∀ h' e, (∀ c o, c ≠ z → c ≠ TO → c ≠ i1 → c ≠ i2 → s.heap.get? c = some o → h'.get? c = some o) → (∃ o, h'.get? e = some o ∧ o.cls = .type "StopIteration") → E (.ref e) { s with heap := h' }) : wpAny (model prog w) A (Builtin.«zip.__next__» ⟨[.ref z], []⟩) Q E s := by
  show wpAny (model prog w) A (field (.ref z) 2 >>= _) _ E s
  refine wpAny_bind (wpAny_field g rfl (x := .bool false) rfl ?_)
  show wpAny (model prog w) A (field (.ref z) 3 >>= _) _ E s
  refine wpAny_bind (wpAny_field g rfl (x := .ref TI) rfl ?_)
  refine wpAny_bind (wpAny_seqItems gI rfl ?_)
  show wpAny (model prog w) A (Builtin.SmallTypes.ownedTupleIsFree (.ref z) >>= _) _ E s
  refine wpAny_bind (zp_free g h0 ?_ fun hA gA sA => ?_)
  · simp only [if_true]
    refine wpAny_bind (wpAny_rule ?_)
    refine wpAny_bind (wpAny_field g rfl (x := .ref TO) rfl ?_)
    refine wpAny_bind (wpAny_setField_rec g (by simp) fun hB gB sB => ?_)
    replace gB : Zp hB z TI TO .ellipsis b := gB
    refine wpAny_bind ?_
    simp only [List.forIn_cons, List.forIn_nil, List.zipIdx_cons, List.zipIdx_nil]
    refine wpAny_bind (wpAny_bind (wpAny_onRaise ?_))
    show wpAny (model prog w) _ (Builtin.SmallTypes.nextOf (.ref i1) >>= _) _ _ _
    cases ex : xs[k1]? with
    | none =>
      refine wpAny_bind (RZ.nextOf_tuple_end nh (j1.extBut sB.extBut D.i1z) (t1.extBut sB.extBut D.l1z) ex fun hC e sC ke => ?_)
      obtain ⟨oe, q1, q2⟩ := ke
      have gC : Zp hC z TI TO .ellipsis b := sC _ _ D.i1z.symm gB
      have ne : e ≠ z := fun u => by subst u; rw [gC] at q1; cases q1; simp at q2
      exact wpAny_setField_rec gC (by simp) fun hD _ sD => qE hD e (fun c o n1 _ n3 _ u => sD.extBut _ _ n1 (sC _ _ n3 (sB.extBut _ _ n1 u))) ⟨oe, sD.extBut _ _ ne q1, q2⟩
    | some x =>
      have ey : ys[k2]? = none := by
        rcases last with u | u
        · rw [ex] at u; cases u
        · exact u
      refine wpAny_bind (RZ.nextOf_tuple_item (j1.extBut sB.extBut D.i1z) (t1.extBut sB.extBut D.l1z) ex fun hC jC sC => wpAny_pure ?_)
      have oC : IsPair hC TO a0 b0 := sC.extBut _ _ D.TOi1 (sB.extBut _ _ D.TOz gO)
      refine wpAny_bind (wpAny_seqItems oC rfl ?_)
      refine wpAny_bind (wpAny_updateSeq_pair oC fun hD oD sD => ?_)
      refine wpAny_bind (wpAny_letGo (wpAny_pure ?_))
      refine wpAny_bind (wpAny_bind (wpAny_onRaise ?_))
      show wpAny (model prog w) _ (Builtin.SmallTypes.nextOf (.ref i2) >>= _) _ _ _
      refine wpAny_bind (RZ.nextOf_tuple_end nh (((j2.extBut sB.extBut D.i2z).extBut sC.extBut D.i12.symm).extBut sD.extBut D.TOi2.symm) (((t2.extBut sB.extBut D.l2z).extBut sC.extBut D.l2i1).extBut sD.extBut D.l2TO) ey fun hF e sF ke => ?_)
      obtain ⟨oe, q1, q2⟩ := ke
      have gF : Zp hF z TI TO .ellipsis b := sF _ _ D.i2z.symm (sD.extBut _ _ D.TOz.symm (sC.extBut _ _ D.i1z.symm gB))
      have ne : e ≠ z := fun u => by subst u; rw [gF] at q1; cases q1; simp at q2
      exact wpAny_setField_rec gF (by simp) fun hG _ sG => qE hG e (fun c o n1 n2 n3 n4 u => sG.extBut _ _ n1 (sF _ _ n4 (sD.extBut _ _ n2 (sC.extBut _ _ n3 (sB.extBut _ _ n1 u))))) ⟨oe, sG.extBut _ _ ne q1, q2⟩
  · simp only [Bool.false_eq_true, if_false]
    have iA1 := j1.extBut sA.extBut D.i1z
    have iA2 := j2.extBut sA.extBut D.i2z
    have lA1 := t1.extBut sA.extBut D.l1z
    have lA2 := t2.extBut sA.extBut D.l2z
    refine wpAny_bind ?_
    rw [← Array.forIn_toList]
    simp only [List.forIn_cons, List.forIn_nil]
    refine wpAny_bind (wpAny_bind (wpAny_holding ?_))
    show wpAny (model prog w) _ (Builtin.SmallTypes.nextOf (.ref i1) >>= _) _ _ _
    cases ex : xs[k1]? with
    | none => exact wpAny_bind (RZ.nextOf_tuple_end nh iA1 lA1 ex fun hC e sC ke => qE hC e (fun c o n1 _ n3 _ u => sC _ _ n3 (sA.extBut _ _ n1 u)) ke)
    | some x =>
      have ey : ys[k2]? = none := by
        rcases last with u | u
        · rw [ex] at u; cases u
        · exact u
      refine wpAny_bind (RZ.nextOf_tuple_item iA1 lA1 ex fun hC jC sC => wpAny_pure ?_)
      refine wpAny_pure ?_
      refine wpAny_bind (wpAny_bind (wpAny_holding ?_))
      show wpAny (model prog w) _ (Builtin.SmallTypes.nextOf (.ref i2) >>= _) _ _ _
      exact wpAny_bind (RZ.nextOf_tuple_end nh (iA2.extBut sC.extBut D.i12.symm) (lA2.extBut sC.extBut D.l2i1) ey fun hF e sF ke => qE hF e (fun c o n1 _ n3 n4 u => sF _ _ n4 (sC.extBut _ _ n3 (sA.extBut _ _ n1 u))) ke)
theorem zp_next {k1 k2 : Nat} {xs ys : Array Value} {x y a0 b0 : Value} {Q : Option Value → Shared → Prop} (D : ZipApart z TI TO i1 i2 l1 l2) (g : Zp s.heap z TI TO f0 b) (h0 : F0 f0)
    (gI : IsPair s.heap TI (.ref i1) (.ref i2)) (gO : IsPair s.heap TO a0 b0) (j1 : s.heap.IsTupleIter i1 l1 k1) (j2 : s.heap.IsTupleIter i2 l2 k2) (t1 : s.heap.IsTuple l1 xs) (t2 : s.heap.IsTuple l2 ys)
    (ex : xs[k1]? = some x) (ey : ys[k2]? = some y)
    (q : ∀ h' f b', Zp h' z TI TO f b' → F0 f → (∃ u v, IsPair h' TO u v) → h'.IsTupleIter i1 l1 (k1 + 1) → h'.IsTupleIter i2 l2 (k2 + 1) → IsPair h' s.heap.objs.size x y →
      (∀ c o, c ≠ z → c ≠ TO → c ≠ i1 → c ≠ i2 → s.heap.get? c = some o → h'.get? c = some o) → Q (some (.ref s.heap.objs.size)) { s with heap := h' }) : wpAny (model prog w) A (pyNext (.ref z)) Q E s := by
  have ty : s.TypeIs (.ref z) "zip" := ⟨_, g, rfl⟩
  unfold pyNext
  exact wpAny_bind (wpAny_attempt (wpAny_callSpecial?_slot (name := Str.ofString "__next__") ty PySem.F.slot_zip_next
    (wpAny_call_entry PySem.F.slot_zip_next ty PySem.F.entry_zip_next (zp_item D g h0 gI gO j1 j2 t1 t2 ex ey fun h' f b' c1 c2 c3 c4 c5 c6 c7 => wpAny_pure (q h' f b' c1 c2 c3 c4 c5 c6 c7)) (PySem.F.args_zip_next_1 _))))
theorem zp_stop {k1 k2 : Nat} {xs ys : Array Value} {a0 b0 : Value} {Q : Option Value → Shared → Prop} (nh : A.handled = none) (D : ZipApart z TI TO i1 i2 l1 l2) (g : Zp s.heap z TI TO f0 b) (h0 : F0 f0)
    (gI : IsPair s.heap TI (.ref i1) (.ref i2)) (gO : IsPair s.heap TO a0 b0) (j1 : s.heap.IsTupleIter i1 l1 k1) (j2 : s.heap.IsTupleIter i2 l2 k2) (t1 : s.heap.IsTuple l1 xs) (t2 : s.heap.IsTuple l2 ys)
    (last : xs[k1]? = none ∨ ys[k2]? = none) (q : ∀ h', (∀ c o, c ≠ z → c ≠ TO → c ≠ i1 → c ≠ i2 → s.heap.get? c = some o → h'.get? c = some o) → Q none { s with heap := h' }) : wpAny (model prog w) A (pyNext (.ref z)) Q E s := by
  have ty : s.TypeIs (.ref z) "zip" := ⟨_, g, rfl⟩
  unfold pyNext
  refine wpAny_bind (wpAny_attempt (wpAny_callSpecial?_slot (name := Str.ofString "__next__") ty PySem.F.slot_zip_next
    (wpAny_call_entry PySem.F.slot_zip_next ty PySem.F.entry_zip_next (zp_end nh D g h0 gI gO j1 j2 t1 t2 last fun h' e kk ke => ?_) (PySem.F.args_zip_next_1 _))))
  obtain ⟨o, q1, q2⟩ := ke
  exact wpAny_bind (wpAny_isInstance (T := "StopIteration") (b := true) ⟨o, q1, q2⟩ isSubtype_stop (wpAny_pure (q _ kk)))
theorem zp_iter {Q : Value → Shared → Prop} (g : Zp s.heap z TI TO f0 b) (q : Q (.ref z) s) : wpAny (model prog w) A (pyIter (.ref z)) Q E s := by
  have ty : s.TypeIs (.ref z) "zip" := ⟨_, g, rfl⟩
  refine wpAny_pyIter_slot ty PySem.F.slot_zip_iter (wpAny_call_entry PySem.F.slot_zip_iter ty PySem.F.entry_zip_iter ?_ (PySem.F.args_zip_iter_1 _))
  show wpAny (model prog w) _ (ret (.ref z)) _ _ s
  exact wpAny_pure ⟨_, rfl, "zip", _, ty, PySem.F.slot_zip_next.lookup, q⟩
end
section
variable {P : Program} {w : World} {K : PySem.W.Frag} {x : Str} {np : Pos} {a b z TI TO i1 i2 : Addr}
theorem zp_turn (D : ZipApart z TI TO i1 i2 a b) :
    Turn P w K (.Name x np) (RZ.ItzT K a b) [z, TI, TO, i1, i2] z (fun i h => (∃ f t, Zp h z TI TO f t ∧ F0 f) ∧ IsPair h TI (.ref i1) (.ref i2) ∧ (∃ u v, IsPair h TO u v) ∧ h.IsTupleIter i1 a i ∧ h.IsTupleIter i2 b i) where
  mem := List.mem_cons_self
  obj := fun i h st c hc => by
    obtain ⟨⟨f, t, g, _⟩, gI, ⟨u, v, gO⟩, ⟨o1, e1, _, d1⟩, ⟨o2, e2, _, d2⟩⟩ := st
    simp only [List.mem_cons, List.not_mem_nil, or_false] at hc
    rcases hc with rfl | rfl | rfl | rfl | rfl
    · exact ⟨_, g, fun v q => nomatch q⟩
    · exact ⟨_, gI, fun v q => nomatch q⟩
    · exact ⟨_, gO, fun v q => nomatch q⟩
    · exact ⟨o1, e1, fun v q => by rw [d1] at q; cases q⟩
    · exact ⟨o2, e2, fun v q => by rw [d2] at q; cases q⟩
  keep := fun i h h' st k => by
    obtain ⟨⟨f, t, g, f0⟩, gI, ⟨u, v, gO⟩, j1, j2⟩ := st
    exact ⟨⟨f, t, k z (by simp) _ g, f0⟩, k TI (by simp) _ gI, ⟨u, v, k TO (by simp) _ gO⟩, j1.at fun o q => k i1 (by simp) o q, j2.at fun o q => k i2 (by simp) o q⟩
  item := by
    intro X hP hw hK hc i pins s σ H E I hf st hg
    subst hP hw hK
    obtain ⟨⟨f, t, g, f0⟩, gI, ⟨u0, v0, gO⟩, j1, j2⟩ := st
    obtain ⟨xs, ys, xv, yv, qx, qy, ex, ey⟩ := hg
    obtain ⟨its, rv, p1, _⟩ := I.tuple qx
    obtain ⟨its2, rv2, p2, _⟩ := I.tuple qy
    obtain ⟨u, eu, ru⟩ := rv.get ex
    obtain ⟨u2, eu2, ru2⟩ := rv2.get ey
    refine zp_next D g f0 gI gO j1 j2 p1 p2 (x := u) (y := u2) (by simpa using eu) (by simpa using eu2) fun h' f' t' c1 c2 c3 c4 c5 c6 kk => ?_
    refine ⟨_, rfl, ?_⟩
    show wpAny (model X.prog X.w) X.A (pure ()) _ E _
    refine wpAny_pure ?_
    have new : ObjOk X.prog X.w (upd H s.heap.objs.size (.tup [xv, yv])) h' s.heap.objs.size (.tup [xv, yv]) := ⟨by show 2 ≤ sizeLine; decide, [u, u2], .cons ru (.cons ru2 .nil), ⟨_, c6, rfl, _, rfl⟩⟩
    have I1 : Inv X pins σ (upd H s.heap.objs.size (.tup [xv, yv])) { s with heap := h' } :=
      I.turnedNew (t' := s.toks) (ch := [z, TI, TO, i1, i2]) (fun c o nb q => kk c o (fun q' => nb (by simp [q'])) (fun q' => nb (by simp [q'])) (fun q' => nb (by simp [q'])) (fun q' => nb (by simp [q'])) q) hf (Nat.le_refl _) new
    refine ⟨.ref s.heap.objs.size, _, I1, rfl, ⟨_, xv, yv, rfl, I.hok.fresh (Nat.le_refl _), rfl, fun l hl => by rw [I.tuple_inj hl qx]; exact ex, fun l hl => by rw [I.tuple_inj hl qy]; exact ey⟩, ⟨⟨f', t', c1, c2⟩, kk _ _ D.TIz D.TITO D.TIi1 D.TIi2 gI, c3, c4, c5⟩, fun c hcm => ?_⟩
    have hlt : c < s.heap.objs.size := by
      have hcm' := hcm
      simp only [List.mem_cons, List.not_mem_nil, or_false] at hcm'
      rcases hcm' with rfl | rfl | rfl | rfl | rfl
      · exact Heap.lt_size g
      · exact Heap.lt_size gI
      · exact Heap.lt_size gO
      · obtain ⟨_, e1, _⟩ := j1; exact Heap.lt_size e1
      · obtain ⟨_, e2, _⟩ := j2; exact Heap.lt_size e2
    rw [upd_ne (Nat.ne_of_lt hlt)]
    exact (hf c hcm).1
  done := by
    intro X hP hw hK hc i pins s σ H E I hf st hg
    subst hP hw hK
    obtain ⟨⟨f, t, g, f0⟩, gI, ⟨u0, v0, gO⟩, j1, j2⟩ := st
    obtain ⟨xs, ys, qx, qy, last⟩ := hg
    obtain ⟨its, rv, p1, _⟩ := I.tuple qx
    obtain ⟨its2, rv2, p2, _⟩ := I.tuple qy
    have n1 := rv.length
    have n2 := rv2.length
    have hl : its.toArray[i]? = none ∨ its2.toArray[i]? = none := by
      rcases last with q | q
      · exact .inl (by simp; omega)
      · exact .inr (by simp; omega)
    exact zp_stop (I.ok.hd hc) D g f0 gI gO j1 j2 p1 p2 hl fun h' kk => ⟨rfl, I.turnedL (t' := s.toks) (ch := [z, TI, TO, i1, i2]) (fun c o nb q =>
      kk c o (fun q' => nb (by simp [q'])) (fun q' => nb (by simp [q'])) (fun q' => nb (by simp [q'])) (fun q' => nb (by simp [q'])) q) hf⟩
  self := fun A i s Q E st h => by
    obtain ⟨⟨f, t, g, _⟩, _⟩ := st
    exact zp_iter g h
def iZipT (K : PySem.W.Frag) (ta : TA) : L2.TI := fun σ H R => ta σ H fun vs H1 => ∃ a b xs ys, vs = [.ref a, .ref b] ∧ SqT K H1 a xs ∧ SqT K H1 b ys ∧ R (RZ.ItzT K a b) H1
theorem pi_zipN {X : Cx} {e e2 : Expr} {ta : TA} {p pos : Pos} (hg : Gl X "zip") (hm : X.mg "zip" = none) (ha : PA X [e, e2] ta)
    (hsa : starEach [e, e2] X.env = (false, eval e X.env) :: starEach [e2] X.env := by rfl) (hpb : (backTo pos (starEach [e2] X.env)).any (·.1) = false := by rfl) :
    PI X (.Name x np) (.Call (.Name "zip" p) [e, e2] [] pos) (iZipT X.K ta) := by
  refine ⟨fun pins s σ H R I h => ?_⟩
  refine Call_ (ld_blt I hg hm PyProof.Rows.boot_zip (PyProof.Rows.callWith_type1 (thn (ha.run pos pins s σ H _ I h) fun us s1 ⟨vs, H1, I1, r1, q1⟩ => ?_) hsa hpb))
  obtain ⟨a, b, xs, ys, ev, qx, qy, q⟩ := q1
  subst ev
  cases r1 with
  | cons r rr =>
    cases rr with
    | cons r' rr =>
      cases rr
      cases r
      cases r'
      have free5 : ∀ c, c ∈ [s1.heap.objs.size + 4, s1.heap.objs.size + 2, s1.heap.objs.size + 3, s1.heap.objs.size, s1.heap.objs.size + 1] → FpOk X pins H1 c := fun c hcm => by
        have hle : s1.heap.objs.size ≤ c := by
          simp only [List.mem_cons, List.not_mem_nil, or_false] at hcm
          have : ∀ k : Nat, s1.heap.objs.size ≤ s1.heap.objs.size + k := fun k => Nat.le_add_right _ _
          rcases hcm with rfl | rfl | rfl | rfl | rfl
          · exact this 4
          · exact this 2
          · exact this 3
          · exact this 0
          · exact this 1
        exact I1.fpOk hle (I1.hok.fresh hle)
      obtain ⟨its, rv, p1, _⟩ := I1.tuple qx
      obtain ⟨its2, rv2, p2, _⟩ := I1.tuple qy
      obtain ⟨o1, ho1, _⟩ := id p1
      obtain ⟨o2, ho2, _⟩ := id p2
      refine RZ.call_zipT (show s1.heap.IsTuple a its.toArray from p1) (show s1.heap.IsTuple b its2.toArray from p2) fun h' g gI gO j1 j2 _ kk => zp_iter (b := false) g ?_
      have I2 : Inv X pins σ H1 { s1 with heap := h' } := I1.kept (t' := s1.toks) kk
      exact ⟨s1.heap.objs.size + 4, [s1.heap.objs.size + 4, s1.heap.objs.size + 2, s1.heap.objs.size + 3, s1.heap.objs.size, s1.heap.objs.size + 1], _, _, H1, rfl, I2, zp_turn (PySem.W.ktu_apart s1.heap.objs.size a b (Heap.lt_size ho1) (Heap.lt_size ho2)), ⟨⟨_, _, g, .inl rfl⟩, gI, ⟨_, _, gO⟩, j1, j2⟩, free5, q⟩
end
/-! ### zip, by data -/
def IzB (tp : Bool) (K : PySem.W.Frag) (a b : Addr) : It :=
  ⟨fun i H => ∃ (us vs : List V) (u v : V), SqB tp K H a us ∧ SqB tp K H b vs ∧ us[i]? = some u ∧ vs[i]? = some v,
    fun i H r H' => ∃ p u v, r = .ref p ∧ H p = none ∧ H' = upd H p (.tup [u, v]) ∧ (∀ us, SqB tp K H a us → us[i]? = some u) ∧ ∀ vs, SqB tp K H b vs → vs[i]? = some v,
    fun i H => ∃ us vs : List V, SqB tp K H a us ∧ SqB tp K H b vs ∧ (us.length ≤ i ∨ vs.length ≤ i)⟩
theorem izB_t {K : PySem.W.Frag} {a b : Addr} : IzB true K a b = RZ.ItzT K a b := rfl
theorem izB_f {K : PySem.W.Frag} {a b : Addr} : IzB false K a b = L2.Itz K a b := rfl
def dZp (t : Tg) (ds es : List D) : List TD := List.zipWith (fun d e => (t, .tup [d, e])) ds es
theorem wk_zp {G : WG} (hG : Gwf G) {Z : Zc} {w : Wd} {tp : Bool} {t : Tg} (ht : t ≠ .O) {a b : Addr} {vs us : List V} {ds es : List D} (ta : ∀ w', G w w' → SqB tp Z.K w'.H a vs) (tb : ∀ w', G w w' → SqB tp Z.K w'.H b us)
    (rd : ∀ w', G w w' → Same (w.rd t) (w'.rd t)) (ra : RpL Z (w.rd t) vs ds) (rb : RpL Z (w.rd t) us es) : Wk G Z (IzB tp Z.K a b) w (dZp t ds es) := by
  refine ⟨fun w' g => ⟨vs, us, ta w' g, tb w' g, ?_⟩, fun i rr w' g hr => ?_⟩
  · have := ra.length
    have := rb.length
    simp only [dZp, List.length_zipWith]
    omega
  unfold dZp at hr
  rw [List.getElem?_zipWith] at hr
  split at hr
  · rename_i d e h1 h2
    cases hr
    obtain ⟨v, h3, h4⟩ := ra.get h1
    obtain ⟨u, h5, h6⟩ := rb.get h2
    have wf := hG.wf _ _ g
    refine ⟨⟨vs, us, v, u, ta w' g, tb w' g, h3, h5⟩, fun x H' ⟨p, y1, y2, ex, hp, eH, q1, q2⟩ => ?_⟩
    have e1 := q1 vs (ta w' g)
    have e2 := q2 us (tb w' g)
    rw [h3] at e1
    rw [h5] at e2
    cases e1
    cases e2
    subst ex eH
    exact ⟨w'.put t p (.tup [v, u]), Gr.put wf hp, put_H, new_tup wf ht hp (.cons (Rp.mono (rd w' g) h4) (.cons (Rp.mono (rd w' g) h6) .nil))⟩
  · cases hr
theorem zp_l {w : Wd} (hw : Wf w) (t1 t2 : Tg) : Same (w.rd t1) (w.rd (mt2 t1 t2)) := by
  cases t1 <;> cases t2 <;> first | exact .refl _ | exact hw.nb | exact hw.nh | exact hw.bh
theorem zp_r {w : Wd} (hw : Wf w) (t1 t2 : Tg) : Same (w.rd t2) (w.rd (mt2 t1 t2)) := by
  cases t1 <;> cases t2 <;> first | exact .refl _ | exact hw.nb | exact hw.nh | exact hw.bh
/-- two tuples, or two lists -/
def zpK : D → D → Option (Bool × List D × List D)
  | .tup xs, .tup ys => some (true, xs, ys)
  | .tup _, _ => none
  | _, .tup _ => none
  | x, y => (seqD x).bind fun xs => (seqD y).bind fun ys => some (false, xs, ys)
def nbT : Tg → Bool | .N => true | .B => true | _ => false
theorem nbT_or {t : Tg} (h : nbT t = true) : t = .N ∨ t = .B := by cases t <;> simp_all [nbT]
theorem nbT_mt {t t' : Tg} (h : nbT t = true) (h' : nbT t' = true) : mt2 t t' = .N ∨ mt2 t t' = .B := by cases t <;> cases t' <;> simp_all [nbT, mt2]
/-- in a for: what stays as it is -/
def itZp (r r' : TD) : Option (List TD) := if nbT r.1 = true ∧ nbT r'.1 = true then (zpK r.2 r'.2).map fun z => dZp (mt2 r.1 r'.1) z.2.1 z.2.2 else none
def sZip (f g : FE) : FI := fun env => (f env).bind fun r => (g env).bind (itZp r)
/-- the pairs kept by a name: tuples only -/
def zpT : D → D → Option (List D × List D)
  | .tup xs, .tup ys => some (xs, ys)
  | _, _ => none
theorem zpK_of {x y : D} {tp : Bool} {xs ys : List D} (h : zpK x y = some (tp, xs, ys)) : (tp = true ∧ x = .tup xs ∧ y = .tup ys) ∨ (tp = false ∧ seqD x = some xs ∧ seqD y = some ys ∧ (∀ z, x ≠ .tup z) ∧ ∀ z, y ≠ .tup z) := by
  unfold zpK at h
  split at h
  · cases h; exact .inl ⟨rfl, rfl, rfl⟩
  · cases h
  · cases h
  · obtain ⟨a, h1, h2⟩ := Option.bind_eq_some_iff.mp h
    obtain ⟨b, h3, h4⟩ := Option.bind_eq_some_iff.mp h2
    cases h4
    rename_i n1 n2 n3
    exact .inr ⟨rfl, h1, h3, fun z e => n1 z e, fun z e => n2 z e⟩
theorem rv_lsB {Z : Zc} {w : Wd} {t : Tg} (ht : t = .N ∨ t = .B) {d : D} {ds : List D} {v : V} (h : RV Z w (t, d) v) (e : seqD d = some ds) (n : ∀ z, d ≠ .tup z) : ∃ p vs, v = .ref p ∧ SqL Z.K (w.rd t) p vs ∧ RpL Z (w.rd t) vs ds := by
  have hO : t ≠ .O := by rcases ht with rfl | rfl <;> decide
  have h9 := RV.rp hO h
  cases d with
  | lst xs => cases e; cases h9 with | lst q r => exact ⟨_, _, rfl, SqL.of q, r⟩
  | scr xs => cases e; cases h9 with | scr q r => exact ⟨_, _, rfl, q, r⟩
  | tup xs => exact (n _ rfl).elim
  | _ => cases e
theorem rv_tpB {Z : Zc} {w : Wd} {t : Tg} (ht : t = .N ∨ t = .B) {ds : List D} {v : V} (h : RV Z w (t, .tup ds) v) : ∃ p vs, v = .ref p ∧ SqT Z.K (w.rd t) p vs ∧ RpL Z (w.rd t) vs ds := by
  have hO : t ≠ .O := by rcases ht with rfl | rfl <;> decide
  cases RV.rp hO h with | tup q r => exact ⟨_, _, rfl, q, r⟩
section
variable {X : Cx} {cl : Str → Option Addr} {a b : Expr} {f g : FE} {p pos tpos : Pos} {elts : List Expr} {kk : Nat} {x : Str} {np : Pos}
theorem zp_rd {σ : L2.St} {H : Hp} {R : It → Hp → Prop} (hh : tI Gs (zx X cl) (sZip f g) σ H R) : RZ.iZipA X.K (tA (zx X cl) (sCons f (sCons g sNil))) σ H R := by
  obtain ⟨env, w, items, e, k, hr, q⟩ := hh
  subst e
  obtain ⟨⟨t, d⟩, h1, h2⟩ := Option.bind_eq_some_iff.mp hr
  obtain ⟨⟨t', d'⟩, h3, h4⟩ := Option.bind_eq_some_iff.mp h2
  unfold itZp at h4
  split at h4
  · rename_i hn
    obtain ⟨ht, ht'⟩ := hn
    obtain ⟨⟨tp, xs, ys⟩, h5, rfl⟩ := Option.map_eq_some_iff.mp h4
    refine ⟨env, w, [(t, d), (t', d')], rfl, k, by simp [h1, h3], fun vs w1 g1 hv => ?_⟩
    obtain ⟨v, u, rfl, r1, r2⟩ := rvs2 hv
    have o1 := nbT_or ht
    have o2 := nbT_or ht'
    have om := nbT_mt ht ht'
    rcases zpK_of h5 with ⟨rfl, rfl, rfl⟩ | ⟨rfl, e1, e2, n1, n2⟩
    · obtain ⟨p1, us1, rfl, q1, s1⟩ := rv_tpB o1 r1
      obtain ⟨p2, us2, rfl, q2, s2⟩ := rv_tpB o2 r2
      refine ⟨p1, p2, us1, us2, rfl, .inr ⟨sqT_mono (rd_le g1.wf t) q1, sqT_mono (rd_le g1.wf t') q2, ?_⟩⟩
      rw [← izB_t]
      exact q _ w1 g1 (wk_zp gwf_s (mt2_ne _ _) (fun w' g => sqT_mono ((gs_rd g o1).trans (rd_le g.wf t)) q1) (fun w' g => sqT_mono ((gs_rd g o2).trans (rd_le g.wf t')) q2) (fun w' g => gs_rd g om)
        (RpL.mono (zp_l g1.wf t t') s1) (RpL.mono (zp_r g1.wf t t') s2))
    · obtain ⟨p1, us1, rfl, q1, s1⟩ := rv_lsB o1 r1 e1 n1
      obtain ⟨p2, us2, rfl, q2, s2⟩ := rv_lsB o2 r2 e2 n2
      refine ⟨p1, p2, us1, us2, rfl, .inl ⟨(rd_le g1.wf t).seq q1, (rd_le g1.wf t').seq q2, ?_⟩⟩
      rw [← izB_f]
      exact q _ w1 g1 (wk_zp gwf_s (mt2_ne _ _) (fun w' g => ((gs_rd g o1).trans (rd_le g.wf t)).seq q1) (fun w' g => ((gs_rd g o2).trans (rd_le g.wf t')).seq q2) (fun w' g => gs_rd g om)
        (RpL.mono (zp_l g1.wf t t') s1) (RpL.mono (zp_r g1.wf t t') s2))
  · cases h4
theorem ji_zip (hm : X.mg "zip" = none) (ha : PE X a (tE (zx X cl) f)) (hb : PE X b (tE (zx X cl) g)) (hg : Gl X "zip" := by rfl) (hs : starEach [a, b] X.env = (false, eval a X.env) :: starEach [b] X.env := by rfl) (hs2 : starEach [b] X.env = (false, eval b X.env) :: starEach [] X.env := by rfl)
    (hpl : (backTo pos (starEach [b] X.env)).any (·.1) = false := by rfl) : PI X (.Tuple elts kk tpos) (.Call (.Name "zip" p) [a, b] [] pos) (tI Gs (zx X cl) (sZip f g)) :=
  pi_w (RZ.pi_zipA hg hm (ja_cons ha (ja_cons hb ja_nil hs2) hs) hs hpl) fun _ _ _ hh => zp_rd hh
def itZs (r r' : TD) : Option (List TD) := if nbT r.1 = true ∧ nbT r'.1 = true then (zpT r.2 r'.2).map fun z => dZp (mt2 r.1 r'.1) z.1 z.2 else none
def sZipS (f g : FE) : FI := fun env => (f env).bind fun r => (g env).bind (itZs r)
theorem zpS_rd {σ : L2.St} {H : Hp} {R : It → Hp → Prop} (hh : tI Gs (zx X cl) (sZipS f g) σ H R) : iZipT X.K (tA (zx X cl) (sCons f (sCons g sNil))) σ H R := by
  obtain ⟨env, w, items, e, k, hr, q⟩ := hh
  subst e
  obtain ⟨⟨t, d⟩, h1, h2⟩ := Option.bind_eq_some_iff.mp hr
  obtain ⟨⟨t', d'⟩, h3, h4⟩ := Option.bind_eq_some_iff.mp h2
  unfold itZs at h4
  split at h4
  · rename_i hn
    obtain ⟨ht, ht'⟩ := hn
    have o1 := nbT_or ht
    have o2 := nbT_or ht'
    obtain ⟨⟨xs, ys⟩, h5, rfl⟩ := Option.map_eq_some_iff.mp h4
    refine ⟨env, w, [(t, d), (t', d')], rfl, k, by simp [h1, h3], fun vs w1 g1 hv => ?_⟩
    obtain ⟨v, u, rfl, r1, r2⟩ := rvs2 hv
    unfold zpT at h5
    dsimp only at h5
    split at h5
    · cases h5
      obtain ⟨p1, us1, rfl, q1, s1⟩ := rv_tpB o1 r1
      obtain ⟨p2, us2, rfl, q2, s2⟩ := rv_tpB o2 r2
      refine ⟨p1, p2, us1, us2, rfl, sqT_mono (rd_le g1.wf t) q1, sqT_mono (rd_le g1.wf t') q2, ?_⟩
      rw [← izB_t]
      exact q _ w1 g1 (wk_zp gwf_s (mt2_ne _ _) (fun w' g => sqT_mono ((gs_rd g o1).trans (rd_le g.wf t)) q1) (fun w' g => sqT_mono ((gs_rd g o2).trans (rd_le g.wf t')) q2) (fun w' g => gs_rd g (nbT_mt ht ht'))
        (RpL.mono (zp_l g1.wf t t') s1) (RpL.mono (zp_r g1.wf t t') s2))
    · cases h5
  · cases h4
theorem ji_zipN (hm : X.mg "zip" = none) (ha : PE X a (tE (zx X cl) f)) (hb : PE X b (tE (zx X cl) g)) (hg : Gl X "zip" := by rfl) (hs : starEach [a, b] X.env = (false, eval a X.env) :: starEach [b] X.env := by rfl) (hs2 : starEach [b] X.env = (false, eval b X.env) :: starEach [] X.env := by rfl)
    (hpl : (backTo pos (starEach [b] X.env)).any (·.1) = false := by rfl) : PI X (.Name x np) (.Call (.Name "zip" p) [a, b] [] pos) (tI Gs (zx X cl) (sZipS f g)) :=
  pi_w (pi_zipN hg hm (ja_cons ha (ja_cons hb ja_nil hs2) hs) hs hpl) fun _ _ _ hh => zpS_rd hh
end
end Vf
namespace Lw
open PySem L2 Vf
abbrev N_law_state_of : List Str := ["kinds", "many", "height", "row", "slots", "stack", "k", "rest", "turn"]
noncomputable def B_law_state_of_2 : FS := (sSet 7 (sOp oFd (sVar 7) (sLit (.int 7))))
noncomputable def B_law_state_of_1 : FS := (sSeq (sSet 7 (sB intB (sCons (sOp oIx (sVar 3) (sOp oFd (sVar 6) (sLit (.int 8)))) sNil))) (sSeq (sFor (sR1 (sOp oMod (sB intB (sCons (sVar 6) sNil)) (sLit (.int 8)))) (setV 8)
  B_law_state_of_2) (sApp 4 (sOp oIx (sOp oAdd (sVar 0) (sL (sLd (sCons (sLit (.str "unset")) sNil)))) (sOp oMod (sB intB (sCons (sVar 7) sNil)) (sLit (.int 7)))))))
noncomputable def B_law_state_of_4 : FS := (sSet 7 (sOp oFd (sVar 7) (sLit (.int 6))))
noncomputable def B_law_state_of_3 : FS := (sSeq (sSet 7 (sB intB (sCons (sOp oIx (sVar 3) (sOp oAdd (sLit (.int 2)) (sOp oFd (sVar 6) (sLit (.int 8))))) sNil))) (sSeq (sFor (sR1 (sOp oMod (sB intB (sCons (sVar 6) sNil)) (sLit (.int 8)))) (setV 8)
  B_law_state_of_4) (sApp 5 (sOp oIx (sVar 0) (sOp oMod (sB intB (sCons (sVar 7) sNil)) (sLit (.int 6)))))))
noncomputable def F_law_state_of : FS := (sSeq (sOwn 4 (sLd sNil)) (sSeq (sOwn 5 (sLd sNil)) (sSeq (sFor (sR1 (sVar 1)) (setV 6)
  B_law_state_of_1) (sSeq (sFor (sR1 (sVar 2)) (setV 6)
  B_law_state_of_3) (sRet (sTp (sCons (sB tupB (sCons (sVar 4) sNil)) (sCons (sB tupB (sCons (sVar 5) sNil)) sNil))))))))
noncomputable def g_law_state_of : List TD → Option TD := gF 4 N_law_state_of.length F_law_state_of
theorem len_law_state_of : ∀ rs r, g_law_state_of rs = some r → rs.length = 4 := gF_len
theorem okt_law_state_of : ∀ rs r, g_law_state_of rs = some r → okT r.1 = true := gF_ok
theorem sem_law_state_of : ∀ rs r, rs.all (fun r => okT r.1) = true → g_law_state_of rs = some r → (F_law_state_of (env0 N_law_state_of.length rs)).bind fin = some r := gF_sem
abbrev N_law_merged_entry : List Str := ["one", "two"]
noncomputable def F_law_merged_entry : FS := (sSeq (sIf (sBl (sOp oEq (sVar 0) (sVar 1)))
  (sRet (sVar 0))
  sNx) (sRet (sOp oIx (sL (sLd (sCons (sLit (.str "mixed")) (sCons (sLit (.str "unset")) sNil)))) (sB intB (sCons (sOp oIn (sLit (.str "unset")) (sL (sLd (sCons (sVar 0) (sCons (sVar 1) sNil))))) sNil)))))
noncomputable def g_law_merged_entry : List TD → Option TD := gF 2 N_law_merged_entry.length F_law_merged_entry
theorem len_law_merged_entry : ∀ rs r, g_law_merged_entry rs = some r → rs.length = 2 := gF_len
theorem okt_law_merged_entry : ∀ rs r, g_law_merged_entry rs = some r → okT r.1 = true := gF_ok
theorem sem_law_merged_entry : ∀ rs r, rs.all (fun r => okT r.1) = true → g_law_merged_entry rs = some r → (F_law_merged_entry (env0 N_law_merged_entry.length rs)).bind fin = some r := gF_sem
abbrev N_law_merged : List Str := ["one", "two", "slots", "k"]
noncomputable def F_law_merged : FS := (sSeq (sSet 2 (sL (sLc (sR1 (sB lenB (sCons (sOp oIx (sVar 0) (sLit (.int 0))) sNil))) (setV 3) sYes (sCall g_law_merged_entry (sCons (sOp oIx (sOp oIx (sVar 0) (sLit (.int 0))) (sVar 3)) (sCons (sOp oIx (sOp oIx (sVar 1) (sLit (.int 0))) (sVar 3)) sNil))) [3]))) (sRet (sTp (sCons (sB tupB (sCons (sVar 2) sNil)) (sCons (sB tupB (sCons (sL (sLc (sR1 (sB lenB (sCons (sOp oIx (sVar 0) (sLit (.int 1))) sNil))) (setV 3) sYes (sCall g_law_merged_entry (sCons (sOp oIx (sOp oIx (sVar 0) (sLit (.int 1))) (sVar 3)) (sCons (sOp oIx (sOp oIx (sVar 1) (sLit (.int 1))) (sVar 3)) sNil))) [3])) sNil)) sNil)))))
noncomputable def g_law_merged : List TD → Option TD := gF 2 N_law_merged.length F_law_merged
theorem len_law_merged : ∀ rs r, g_law_merged rs = some r → rs.length = 2 := gF_len
theorem okt_law_merged : ∀ rs r, g_law_merged rs = some r → okT r.1 = true := gF_ok
theorem sem_law_merged : ∀ rs r, rs.all (fun r => okT r.1) = true → g_law_merged rs = some r → (F_law_merged (env0 N_law_merged.length rs)).bind fin = some r := gF_sem
abbrev N_law_raised : List Str := ["state", "digits", "parts", "part", "row", "k", "digit"]
noncomputable def B_law_raised_2 : FS := (sSeq (sSet 6 (sOp oIx (sVar 1) (sOp oAdd (sOp oMulX (sLit (.int 16)) (sVar 3)) (sVar 5)))) (sIf (sAndT (sBl (sOp oGe (sVar 6) (sLit (.int 4)))) (sBl (sOp oNe (sOp oIx (sVar 4) (sVar 5)) (sLit (.str "unset")))))
  (sPut 4 (sVar 5) (sOp oIx (sL (sLd (sCons (sLit (.str "mixed")) (sCons (sLit (.str "unset")) sNil)))) (sB intB (sCons (sAndV (sOp oEq (sVar 6) (sLit (.int 5))) (sOp oEq (sVar 3) (sLit (.int 0)))) sNil))))
  sNx))
noncomputable def B_law_raised_1 : FS := (sSeq (sOwn 4 (sLb listB (sCons (sOp oIx (sVar 0) (sVar 3)) sNil))) (sSeq (sFor (sR1 (sB lenB (sCons (sVar 4) sNil))) (setV 5)
  B_law_raised_2) (sApp 2 (sB tupB (sCons (sVar 4) sNil)))))
noncomputable def F_law_raised : FS := (sSeq (sOwn 2 (sLd sNil)) (sSeq (sFor (sR1 (sLit (.int 2))) (setV 3)
  B_law_raised_1) (sRet (sTp (sCons (sOp oIx (sVar 2) (sLit (.int 0))) (sCons (sOp oIx (sVar 2) (sLit (.int 1))) sNil))))))
noncomputable def g_law_raised : List TD → Option TD := gF 2 N_law_raised.length F_law_raised
theorem len_law_raised : ∀ rs r, g_law_raised rs = some r → rs.length = 2 := gF_len
theorem okt_law_raised : ∀ rs r, g_law_raised rs = some r → okT r.1 = true := gF_ok
theorem sem_law_raised : ∀ rs r, rs.all (fun r => okT r.1) = true → g_law_raised rs = some r → (F_law_raised (env0 N_law_raised.length rs)).bind fin = some r := gF_sem
abbrev N_law_resized : List Str := ["state", "deed"]
noncomputable def F_law_resized : FS := (sSeq (sIf (sBl (sOp oEq (sVar 1) (sLit (.int 0))))
  (sRet (sTp (sCons (sOp oAdd (sOp oIx (sVar 0) (sLit (.int 0))) (sTp (sCons (sLit (.str "num")) sNil))) (sCons (sOp oIx (sVar 0) (sLit (.int 1))) sNil))))
  sNx) (sSeq (sIf (sBl (sOp oEq (sVar 1) (sLit (.int 1))))
  (sRet (sTp (sCons (sOp oIx (sVar 0) (sLit (.int 0))) (sCons (sOp oAdd (sOp oIx (sVar 0) (sLit (.int 1))) (sTp (sCons (sLit (.str "num")) sNil))) sNil))))
  sNx) (sSeq (sIf (sBl (sOp oEq (sVar 1) (sLit (.int 2))))
  (sRet (sTp (sCons (sSl (sOp oIx (sVar 0) (sLit (.int 0))) sNoP (sPt (sOp oSub (sB lenB (sCons (sOp oIx (sVar 0) (sLit (.int 0))) sNil)) (sLit (.int 1))))) (sCons (sOp oIx (sVar 0) (sLit (.int 1))) sNil))))
  sNx) (sRet (sTp (sCons (sOp oIx (sVar 0) (sLit (.int 0))) (sCons (sSl (sOp oIx (sVar 0) (sLit (.int 1))) sNoP (sPt (sOp oSub (sB lenB (sCons (sOp oIx (sVar 0) (sLit (.int 1))) sNil)) (sLit (.int 1))))) sNil)))))))
noncomputable def g_law_resized : List TD → Option TD := gF 2 N_law_resized.length F_law_resized
theorem len_law_resized : ∀ rs r, g_law_resized rs = some r → rs.length = 2 := gF_len
theorem okt_law_resized : ∀ rs r, g_law_resized rs = some r → okT r.1 = true := gF_ok
theorem sem_law_resized : ∀ rs r, rs.all (fun r => okT r.1) = true → g_law_resized rs = some r → (F_law_resized (env0 N_law_resized.length rs)).bind fin = some r := gF_sem
abbrev N_law_same_state : List Str := ["told", "due", "part", "k"]
noncomputable def B_law_same_state_2 : FS := (sIf (sOrT (sNotT (sTru (sIsi "str" (sOp oIx (sOp oIx (sVar 0) (sVar 2)) (sVar 3))))) (sBl (sOp oNe (sOp oIx (sOp oIx (sVar 0) (sVar 2)) (sVar 3)) (sOp oIx (sOp oIx (sVar 1) (sVar 2)) (sVar 3)))))
  (sRet (sLit (.bl false)))
  sNx)
noncomputable def B_law_same_state_1 : FS := (sSeq (sIf (sOrT (sNotT (sTru (sIsi "tuple" (sOp oIx (sVar 0) (sVar 2))))) (sBl (sOp oNe (sB lenB (sCons (sOp oIx (sVar 0) (sVar 2)) sNil)) (sB lenB (sCons (sOp oIx (sVar 1) (sVar 2)) sNil)))))
  (sRet (sLit (.bl false)))
  sNx) (sFor (sR1 (sB lenB (sCons (sOp oIx (sVar 1) (sVar 2)) sNil))) (setV 3)
  B_law_same_state_2))
noncomputable def F_law_same_state : FS := (sSeq (sIf (sOrT (sNotT (sTru (sIsi "tuple" (sVar 0)))) (sBl (sOp oNe (sB lenB (sCons (sVar 0) sNil)) (sLit (.int 2)))))
  (sRet (sLit (.bl false)))
  sNx) (sSeq (sFor (sR1 (sLit (.int 2))) (setV 2)
  B_law_same_state_1) (sRet (sLit (.bl true)))))
noncomputable def g_law_same_state : List TD → Option TD := gF 2 N_law_same_state.length F_law_same_state
theorem len_law_same_state : ∀ rs r, g_law_same_state rs = some r → rs.length = 2 := gF_len
theorem okt_law_same_state : ∀ rs r, g_law_same_state rs = some r → okT r.1 = true := gF_ok
theorem sem_law_same_state : ∀ rs r, rs.all (fun r => okT r.1) = true → g_law_same_state rs = some r → (F_law_same_state (env0 N_law_same_state.length rs)).bind fin = some r := gF_sem
abbrev N_law_entry_fits : List Str := ["one", "two"]
noncomputable def F_law_entry_fits : FS := (sRet (sOrV (sOp oEq (sVar 0) (sVar 1)) (sOrV (sOp oEq (sVar 1) (sLit (.str "unset"))) (sAndV (sOp oEq (sVar 1) (sLit (.str "mixed"))) (sOp oNe (sVar 0) (sLit (.str "unset")))))))
noncomputable def g_law_entry_fits : List TD → Option TD := gF 2 N_law_entry_fits.length F_law_entry_fits
theorem len_law_entry_fits : ∀ rs r, g_law_entry_fits rs = some r → rs.length = 2 := gF_len
theorem okt_law_entry_fits : ∀ rs r, g_law_entry_fits rs = some r → okT r.1 = true := gF_ok
theorem sem_law_entry_fits : ∀ rs r, rs.all (fun r => okT r.1) = true → g_law_entry_fits rs = some r → (F_law_entry_fits (env0 N_law_entry_fits.length rs)).bind fin = some r := gF_sem
abbrev N_law_state_fits : List Str := ["one", "two", "part", "k"]
noncomputable def B_law_state_fits_2 : FS := (sIf (sNotT (sTru (sCall g_law_entry_fits (sCons (sOp oIx (sOp oIx (sVar 0) (sVar 2)) (sVar 3)) (sCons (sOp oIx (sOp oIx (sVar 1) (sVar 2)) (sVar 3)) sNil)))))
  (sRet (sLit (.bl false)))
  sNx)
noncomputable def B_law_state_fits_1 : FS := (sFor (sR1 (sB lenB (sCons (sOp oIx (sVar 0) (sVar 2)) sNil))) (setV 3)
  B_law_state_fits_2)
noncomputable def F_law_state_fits : FS := (sSeq (sIf (sOrT (sBl (sOp oNe (sB lenB (sCons (sOp oIx (sVar 0) (sLit (.int 0))) sNil)) (sB lenB (sCons (sOp oIx (sVar 1) (sLit (.int 0))) sNil)))) (sBl (sOp oNe (sB lenB (sCons (sOp oIx (sVar 0) (sLit (.int 1))) sNil)) (sB lenB (sCons (sOp oIx (sVar 1) (sLit (.int 1))) sNil)))))
  (sRet (sLit (.bl false)))
  sNx) (sSeq (sFor (sR1 (sLit (.int 2))) (setV 2)
  B_law_state_fits_1) (sRet (sLit (.bl true)))))
noncomputable def g_law_state_fits : List TD → Option TD := gF 2 N_law_state_fits.length F_law_state_fits
theorem len_law_state_fits : ∀ rs r, g_law_state_fits rs = some r → rs.length = 2 := gF_len
theorem okt_law_state_fits : ∀ rs r, g_law_state_fits rs = some r → okT r.1 = true := gF_ok
theorem sem_law_state_fits : ∀ rs r, rs.all (fun r => okT r.1) = true → g_law_state_fits rs = some r → (F_law_state_fits (env0 N_law_state_fits.length rs)).bind fin = some r := gF_sem
abbrev N_law_mingled : List Str := ["one", "two", "digits", "parts", "part", "k"]
noncomputable def B_law_mingled_1 : FS := (sApp 3 (sB tupB (sCons (sL (sLc (sR1 (sB lenB (sCons (sOp oIx (sVar 0) (sVar 4)) sNil))) (setV 5) sYes (sOp oIx (sL (sLd (sCons (sOp oIx (sOp oIx (sVar 0) (sVar 4)) (sVar 5)) (sCons (sOp oIx (sOp oIx (sVar 1) (sVar 4)) (sVar 5)) sNil)))) (sB intB (sCons (sOp oEq (sOp oIx (sVar 2) (sOp oAdd (sOp oMulX (sLit (.int 16)) (sVar 4)) (sVar 5))) (sLit (.int 0))) sNil))) [5])) sNil)))
noncomputable def F_law_mingled : FS := (sSeq (sOwn 3 (sLd sNil)) (sSeq (sFor (sR1 (sLit (.int 2))) (setV 4)
  B_law_mingled_1) (sRet (sTp (sCons (sOp oIx (sVar 3) (sLit (.int 0))) (sCons (sOp oIx (sVar 3) (sLit (.int 1))) sNil))))))
noncomputable def g_law_mingled : List TD → Option TD := gF 3 N_law_mingled.length F_law_mingled
theorem len_law_mingled : ∀ rs r, g_law_mingled rs = some r → rs.length = 3 := gF_len
theorem okt_law_mingled : ∀ rs r, g_law_mingled rs = some r → okT r.1 = true := gF_ok
theorem sem_law_mingled : ∀ rs r, rs.all (fun r => okT r.1) = true → g_law_mingled rs = some r → (F_law_mingled (env0 N_law_mingled.length rs)).bind fin = some r := gF_sem
abbrev N_law_lowered : List Str := ["state", "other", "part", "at", "spot", "row"]
noncomputable def F_law_lowered : FS := (sSeq (sIf (sBl (sOp oEq (sB lenB (sCons (sOp oIx (sVar 0) (sVar 2)) sNil)) (sLit (.int 0))))
  (sRet (sVar 0))
  sNx) (sSeq (sSet 4 (sOp oMod (sB intB (sCons (sVar 3) sNil)) (sB lenB (sCons (sOp oIx (sVar 0) (sVar 2)) sNil)))) (sSeq (sSet 5 (sOp oAdd (sOp oAdd (sSl (sOp oIx (sVar 0) (sVar 2)) sNoP (sPt (sVar 4))) (sTp (sCons (sOp oIx (sOp oIx (sVar 1) (sVar 2)) (sVar 4)) sNil))) (sSl (sOp oIx (sVar 0) (sVar 2)) (sPt (sOp oAdd (sVar 4) (sLit (.int 1)))) sNoP))) (sRet (sOp oIx (sL (sLd (sCons (sTp (sCons (sVar 5) (sCons (sOp oIx (sVar 0) (sLit (.int 1))) sNil))) (sCons (sTp (sCons (sOp oIx (sVar 0) (sLit (.int 0))) (sCons (sVar 5) sNil))) sNil)))) (sVar 2))))))
noncomputable def g_law_lowered : List TD → Option TD := gF 4 N_law_lowered.length F_law_lowered
theorem len_law_lowered : ∀ rs r, g_law_lowered rs = some r → rs.length = 4 := gF_len
theorem okt_law_lowered : ∀ rs r, g_law_lowered rs = some r → okT r.1 = true := gF_ok
theorem sem_law_lowered : ∀ rs r, rs.all (fun r => okT r.1) = true → g_law_lowered rs = some r → (F_law_lowered (env0 N_law_lowered.length rs)).bind fin = some r := gF_sem
abbrev N_law_shown : List Str := ["state", "form"]
noncomputable def F_law_shown : FS := (sRet (sOp oIx (sL (sLd (sCons (sTp (sCons (sOp oIx (sVar 0) (sLit (.int 0))) (sCons (sOp oIx (sVar 0) (sLit (.int 1))) sNil))) (sCons (sL (sLd (sCons (sL (sLb listB (sCons (sOp oIx (sVar 0) (sLit (.int 0))) sNil))) (sCons (sL (sLb listB (sCons (sOp oIx (sVar 0) (sLit (.int 1))) sNil))) sNil)))) (sCons (sTp (sCons (sOp oIx (sVar 0) (sLit (.int 0))) (sCons (sL (sLb listB (sCons (sOp oIx (sVar 0) (sLit (.int 1))) sNil))) sNil))) sNil))))) (sVar 1)))
noncomputable def g_law_shown : List TD → Option TD := gF 2 N_law_shown.length F_law_shown
theorem len_law_shown : ∀ rs r, g_law_shown rs = some r → rs.length = 2 := gF_len
theorem okt_law_shown : ∀ rs r, g_law_shown rs = some r → okT r.1 = true := gF_ok
theorem sem_law_shown : ∀ rs r, rs.all (fun r => okT r.1) = true → g_law_shown rs = some r → (F_law_shown (env0 N_law_shown.length rs)).bind fin = some r := gF_sem
abbrev N_frozen : List Str := ["value", "part"]
noncomputable def F_frozen (gg : List TD → Option TD) : FS := (sSeq (sIf (sTru (sIsi2 "list" "tuple" (sVar 0)))
  (sRet (sB tupB (sCons (sL (sLc (sItr (sVar 0)) (setV 1) sYes (sCall gg (sCons (sVar 1) sNil)) [1])) sNil)))
  sNx) (sRet (sVar 0)))
noncomputable def gN_frozen : Nat → List TD → Option TD
  | 0 => fun _ => none
  | n + 1 => gF 1 N_frozen.length (F_frozen (gN_frozen n))
noncomputable def g_frozen : List TD → Option TD := gN_frozen 9
def G_MIXED : D := (.str "mixed")
def G_UNSET : D := (.str "unset")
abbrev N_merged_entry : List Str := ["one", "two"]
noncomputable def F_merged_entry : SX := (zSeq (zIf (xP (sBl (sOp oEq (sVar 0) (sVar 1))))
  (zRet (xE (sVar 0)))
  zNx) (zSeq (zIf (xP (sBl (sOp oIn (sLit G_UNSET) (sTp (sCons (sVar 0) (sCons (sVar 1) sNil))))))
  (zRet (xE (sLit G_UNSET)))
  zNx) (zRet (xE (sLit G_MIXED)))))
noncomputable def g_merged_entry : List HV → Tb → Option (XRes HV) := gFX 2 N_merged_entry.length F_merged_entry
abbrev N_merged_entries : List Str := ["one", "two", "entries"]
noncomputable def F_merged_entries : SX := (zRet (xTupOf (xLcF (sZipS (sVar 0) (sVar 1)) (setV 2) xYes (xCall g_merged_entry (xStar (xE (sVar 2)))) [2])))
noncomputable def g_merged_entries : List HV → Tb → Option (XRes HV) := gFX 2 N_merged_entries.length F_merged_entries
abbrev N_merged : List Str := ["one", "two", "parts"]
noncomputable def F_merged : SX := (zRet (xTupOf (xLcF (sZipS (sCall g_frozen (sCons (sVar 0) sNil)) (sCall g_frozen (sCons (sVar 1) sNil))) (setV 2) xYes (xCall g_merged_entries (xStar (xE (sVar 2)))) [2])))
noncomputable def g_merged : List HV → Tb → Option (XRes HV) := gFX 2 N_merged.length F_merged
abbrev N_fits_entry : List Str := ["one", "two"]
noncomputable def F_fits_entry : SX := (zRet (xE (sOrV (sOp oEq (sVar 0) (sVar 1)) (sOrV (sOp oEq (sVar 1) (sLit G_UNSET)) (sAndV (sOp oEq (sVar 1) (sLit G_MIXED)) (sOp oNe (sVar 0) (sLit G_UNSET)))))))
noncomputable def g_fits_entry : List HV → Tb → Option (XRes HV) := gFX 2 N_fits_entry.length F_fits_entry
abbrev N_fits : List Str := ["one", "two", "mine", "awaited", "entries"]
noncomputable def B_fits_1 : SX := (zSeq (zIf (xP (sBl (sOp oNe (sB lenB (sCons (sVar 2) sNil)) (sB lenB (sCons (sVar 3) sNil)))))
  (zRet (xE (sLit (.bl false))))
  zNx) (zIf (xNotT (xTru (xB allB (xCons (xLcF (sZipS (sVar 2) (sVar 3)) (setV 4) xYes (xCall g_fits_entry (xStar (xE (sVar 4)))) [4]) xNil))))
  (zRet (xE (sLit (.bl false))))
  zNx))
noncomputable def F_fits : SX := (zSeq (zFor (sZip (sCall g_frozen (sCons (sVar 0) sNil)) (sCall g_frozen (sCons (sVar 1) sNil))) (setTup 2 (setCons (setV 2) (setCons (setV 3) setNil)))
  B_fits_1) (zRet (xE (sLit (.bl true)))))
noncomputable def g_fits : List HV → Tb → Option (XRes HV) := gFX 2 N_fits.length F_fits
abbrev N_law_pair_asked : List Str := ["one", "two", "form", "first", "second", "told", "fit"]
noncomputable def F_law_pair_asked : SX := (zSeq (zSet 3 (xE (sCall g_law_shown (sCons (sVar 0) (sCons (sVar 2) sNil))))) (zSeq (zSet 4 (xE (sCall g_law_shown (sCons (sVar 1) (sCons (sOp oMod (sB intB (sCons (sOp oAdd (sVar 2) (sLit (.int 1))) sNil)) (sLit (.int 3))) sNil))))) (zSeq (zIf (xP (sAndT (sBl (sOp oEq (sB lenB (sCons (sOp oIx (sVar 0) (sLit (.int 0))) sNil)) (sB lenB (sCons (sOp oIx (sVar 1) (sLit (.int 0))) sNil)))) (sBl (sOp oEq (sB lenB (sCons (sOp oIx (sVar 0) (sLit (.int 1))) sNil)) (sB lenB (sCons (sOp oIx (sVar 1) (sLit (.int 1))) sNil))))))
  (zSeq (zSet 5 (xCall g_merged (xCons (xE (sVar 3)) (xCons (xE (sVar 4)) xNil)))) (zSeq (zIf (xP (sBl (sOp oEq (sVar 2) (sLit (.int 2)))))
  (zSet 5 (xCallK g_merged ["two", "one"] [1, 0] (xCons (xE (sVar 4)) (xCons (xE (sVar 3)) xNil))))
  zNx) (zIf (xP (sNotT (sTru (sCall g_law_same_state (sCons (sVar 5) (sCons (sCall g_law_merged (sCons (sVar 0) (sCons (sVar 1) sNil))) sNil))))))
  (zRet (xE (sLit (.bl false))))
  zNx)))
  zNx) (zSeq (zSet 6 (xCall g_fits (xCons (xE (sVar 3)) (xCons (xE (sVar 4)) xNil)))) (zSeq (zIf (xP (sBl (sOp oEq (sVar 2) (sLit (.int 2)))))
  (zSet 6 (xCallK g_fits ["two", "one"] [1, 0] (xCons (xE (sVar 4)) (xCons (xE (sVar 3)) xNil))))
  zNx) (zSeq (zIf (xP (sOrT (sNotT (sTru (sIsi "bool" (sVar 6)))) (sBl (sOp oNe (sVar 6) (sCall g_law_state_fits (sCons (sVar 0) (sCons (sVar 1) sNil)))))))
  (zRet (xE (sLit (.bl false))))
  zNx) (zRet (xE (sAndV (sOp oEq (sVar 3) (sCall g_law_shown (sCons (sVar 0) (sCons (sVar 2) sNil)))) (sOp oEq (sVar 4) (sCall g_law_shown (sCons (sVar 1) (sCons (sOp oMod (sB intB (sCons (sOp oAdd (sVar 2) (sLit (.int 1))) sNil)) (sLit (.int 3))) sNil)))))))))))))
noncomputable def g_law_pair_asked : List HV → Tb → Option (XRes HV) := gFX 3 N_law_pair_asked.length F_law_pair_asked
abbrev N_law : List Str := ["script", "row", "menu", "kinds", "k", "drawn", "one", "two", "both", "more", "third", "least", "states", "other", "told", "above"]
noncomputable def B_law_1 : SX := (zDo (xLm mApp (xH (hVar 5)) (xCons (xE (sCall g_law_state_of (sCons (sVar 3) (sCons (sOp oIx (sVar 1) (sLit (.int 0))) (sCons (sOp oIx (sVar 1) (sLit (.int 1))) (sCons (sCall g_law_digits (sCons (sCall g_law_cell (sCons (sVar 0) (sCons (sOp oAdd (sLit (.int 1)) (sVar 4)) sNil))) (sCons (sL (sLd (sCons (sLit (.int 5764801)) (sCons (sLit (.int 5764801)) (sCons (sLit (.int 1679616)) (sCons (sLit (.int 1679616)) sNil)))))) sNil))) sNil)))))) xNil)))
noncomputable def B_law_2 : SX := (zIf (xNotT (xTru (xCall g_law_pair_asked (xCons (xE (sOp oIx (sVar 12) (sOp oFd (sVar 4) (sLit (.int 6))))) (xCons (xE (sOp oIx (sVar 12) (sOp oMod (sB intB (sCons (sVar 4) sNil)) (sLit (.int 6))))) (xCons (xE (sOp oMod (sB intB (sCons (sOp oAdd (sOp oIx (sVar 1) (sLit (.int 2))) (sVar 4)) sNil)) (sLit (.int 3)))) xNil))))))
  (zRet (xE (sLit (.bl false))))
  zNx)
noncomputable def B_law_3 : SX := (zSeq (zSet 13 (xE (sCall g_law_resized (sCons (sOp oIx (sVar 12) (sVar 4)) (sCons (sOp oIx (sVar 1) (sLit (.int 4))) sNil))))) (zIf (xOrT (xNotT (xTru (xCall g_law_pair_asked (xCons (xE (sOp oIx (sVar 12) (sOp oIx (sVar 1) (sLit (.int 5))))) (xCons (xE (sVar 13)) (xCons (xE (sLit (.int 0))) xNil)))))) (xNotT (xTru (xCall g_law_pair_asked (xCons (xE (sVar 13)) (xCons (xE (sOp oIx (sVar 12) (sOp oIx (sVar 1) (sLit (.int 5))))) (xCons (xE (sLit (.int 1))) xNil)))))))
  (zRet (xE (sLit (.bl false))))
  zNx))
noncomputable def F_law : SX := (zSeq (zSet 1 (xE (sCall g_law_digits (sCons (sCall g_law_cell (sCons (sVar 0) (sCons (sLit (.int 0)) sNil))) (sCons (sL (sLd (sCons (sLit (.int 17)) (sCons (sLit (.int 17)) (sCons (sLit (.int 3)) (sCons (sLit (.int 8)) (sCons (sLit (.int 4)) (sCons (sLit (.int 6)) sNil)))))))) sNil))))) (zSeq (zSet 2 (xE (sL (sLd (sCons (sLit (.str "node")) (sCons (sLit (.str "any")) (sCons (sLit (.str "mixed0")) (sCons (sLit (.str "unset9")) (sCons (sLit (.str "b")) (sCons (sLit (.str "num1")) (sCons (sLit (.str "z")) (sCons (sLit (.str "w")) sNil)))))))))))) (zSeq (zSet 3 (xE (sOp oAdd (sL (sLd (sCons (sLit (.str "num")) (sCons (sLit (.str "mixed")) sNil)))) (sL (sLc (sR1 (sLit (.int 4))) (setV 4) sYes (sOp oIx (sVar 2) (sOp oMod (sB intB (sCons (sOp oAdd (sOp oIx (sVar 1) (sLit (.int 3))) (sVar 4)) sNil)) (sLit (.int 8)))) [4]))))) (zSeq (zSet 5 (xLst xNil)) (zSeq (zFor (sR1 (sLit (.int 3))) (setV 4)
  B_law_1) (zSeq (zSet 6 (xIx (xH (hVar 5)) (xE (sLit (.int 0))))) (zSeq (zSet 7 (xCallP g_law_mingled (xCons (xIx (xH (hVar 5)) (xE (sLit (.int 1)))) (xCons (xE (sVar 6)) (xCons (xE (sCall g_law_digits (sCons (sCall g_law_cell (sCons (sVar 0) (sCons (sLit (.int 4)) sNil))) (sCons (sOp oMulX (sL (sLd (sCons (sLit (.int 2)) sNil))) (sLit (.int 32))) sNil)))) xNil))))) (zSeq (zSet 8 (xE (sCall g_law_merged (sCons (sVar 6) (sCons (sVar 7) sNil))))) (zSeq (zSet 9 (xE (sCall g_law_digits (sCons (sCall g_law_cell (sCons (sVar 0) (sCons (sLit (.int 5)) sNil))) (sCons (sOp oAdd (sOp oMulX (sL (sLd (sCons (sLit (.int 6)) sNil))) (sLit (.int 32))) (sL (sLd (sCons (sLit (.int 5)) (sCons (sLit (.int 16)) (sCons (sLit (.int 2)) sNil)))))) sNil))))) (zSeq (zSet 10 (xE (sCall g_law_raised (sCons (sVar 8) (sCons (sSl (sVar 9) sNoP (sPt (sLit (.int 32)))) sNil))))) (zSeq (zIf (xP (sBl (sOp oGt (sOp oIx (sVar 9) (sLit (.int 32))) (sLit (.int 1)))))
  (zSet 10 (xCallP g_law_lowered (xCons (xE (sVar 10)) (xCons (xIx (xLst (xCons (xE (sVar 6)) (xCons (xE (sVar 7)) (xCons (xIx (xH (hVar 5)) (xE (sLit (.int 2)))) xNil)))) (xE (sOp oSub (sOp oIx (sVar 9) (sLit (.int 32))) (sLit (.int 2))))) (xCons (xE (sOp oIx (sVar 9) (sLit (.int 34)))) (xCons (xE (sOp oIx (sVar 9) (sLit (.int 33)))) xNil))))))
  zNx) (zSeq (zSet 11 (xE (sCall g_law_merged (sCons (sVar 8) (sCons (sVar 10) sNil))))) (zSeq (zSet 12 (xE (sL (sLd (sCons (sVar 6) (sCons (sVar 7) (sCons (sVar 8) (sCons (sVar 10) (sCons (sVar 11) (sCons (sCall g_law_merged (sCons (sVar 6) (sCons (sVar 10) sNil))) sNil)))))))))) (zSeq (zFor (sR1 (sLit (.int 36))) (setV 4)
  B_law_2) (zSeq (zFor (sR1 (sLit (.int 6))) (setV 4)
  B_law_3) (zSeq (zSet 14 (xCall g_merged (xCons (xCall g_merged (xCons (xE (sVar 6)) (xCons (xE (sVar 7)) xNil))) (xCons (xE (sVar 10)) xNil)))) (zSeq (zIf (xOrT (xP (sNotT (sTru (sCall g_law_same_state (sCons (sVar 14) (sCons (sVar 11) sNil)))))) (xNotT (xTru (xCallP g_law_same_state (xCons (xCall g_merged (xCons (xE (sVar 6)) (xCons (xCall g_merged (xCons (xE (sVar 7)) (xCons (xE (sVar 10)) xNil))) xNil))) (xCons (xE (sVar 11)) xNil))))))
  (zRet (xE (sLit (.bl false))))
  zNx) (zSeq (zSet 15 (xCall g_fits (xCons (xE (sVar 14)) (xCons (xE (sVar 10)) xNil)))) (zRet (xAndV (xOp oEq (xE (sVar 15)) (xAndV (xCall g_fits (xCons (xE (sVar 6)) (xCons (xE (sVar 10)) xNil))) (xCall g_fits (xCons (xE (sVar 7)) (xCons (xE (sVar 10)) xNil))))) (xE (sOp oEq (sVar 15) (sCall g_law_state_fits (sCons (sVar 11) (sCons (sVar 10) sNil)))))))))))))))))))))))))
noncomputable def g_law : List HV → Tb → Option (XRes HV) := gFX 1 N_law.length F_law
end Lw
namespace Lw
open PySem L2 Vf
theorem lcL_mapN {α : Type} {fe : FE} {s : TD → Ev → Option Ev} {env : Ev} {g h : α → D} : ∀ {xs : List α}, (∀ a ∈ xs, Ok (s (.N, g a) env) fun e => Ok (fe e) fun y => y = (.N, h a)) → lcL sYes fe s env (xs.map fun a => (Tg.N, g a)) = some (xs.map fun a => (Tg.N, h a))
  | [], _ => rfl
  | a :: xs, hh => by
    obtain ⟨e, q1, y, q2, q3⟩ := hh a List.mem_cons_self
    subst q3
    have ih := lcL_mapN (xs := xs) (fe := fe) (s := s) (env := env) (g := g) (h := h) fun r hr => hh r (List.mem_cons_of_mem _ hr)
    rw [List.map_cons]
    unfold lcL
    rw [q1, ih]
    simp [q2, okT]
@[simp high] theorem Ok_if_none {α : Type} {c : Prop} [Decidable c] {p : Option α} {Q : α → Prop} : Ok (if c then p else none) Q ↔ c ∧ Ok p Q := Ok_of_if
@[simp high] theorem Ok_if_none' {α : Type} {c : Prop} [Decidable c] {p : Option α} {Q : α → Prop} : Ok (if c then none else p) Q ↔ ¬ c ∧ Ok p Q := by
  by_cases h : c <;> simp [h]
def Ext (T T' : Tb) : Prop := T <+: T'
theorem Ext.refl (T : Tb) : Ext T T := List.prefix_refl T
theorem Ext.trans {T T' T2 : Tb} (a : Ext T T') (b : Ext T' T2) : Ext T T2 := List.IsPrefix.trans a b
theorem Ext.get {T T' : Tb} (a : Ext T T') {n : Nat} {M : Option Mob} (h : T[n]? = some M) : T'[n]? = some M := by
  obtain ⟨l, hl⟩ := a
  rw [← hl, List.getElem?_append_left (List.getElem?_eq_some_iff.mp h).1]
  exact h
theorem Ext.app (T : Tb) (l : Tb) : Ext T (T ++ l) := List.prefix_append T l
theorem Ext.set {T T' : Tb} (h : Ext T T') {n : Nat} {m : Option Mob} (hn : T.length ≤ n) : Ext T (T'.set n m) := by
  obtain ⟨l, rfl⟩ := h
  rw [List.set_append_right _ _ hn]
  exact Ext.app T _
@[simp] theorem pures_n : pures [] = some [] := rfl
@[simp] theorem pures_c {d : D} {xs : List HV} : pures (.pu d :: xs) = (pures xs).map (d :: ·) := rfl
theorem pures_map (ds : List D) : pures (ds.map .pu) = some ds := by
  induction ds with
  | nil => rfl
  | cons d ds ih => rw [List.map_cons, pures_c, ih]; rfl
mutual
def frzD : D → D
  | .lst xs => .tup (frzDs xs)
  | .tup xs => .tup (frzDs xs)
  | .scr xs => .tup (frzDs xs)
  | d => d
def frzDs : List D → List D
  | [] => []
  | d :: ds => frzD d :: frzDs ds
end
mutual
def okF : Nat → D → Bool
  | 0, _ => false
  | n + 1, .lst xs => okFs n xs && decide (xs.length ≤ lim)
  | n + 1, .tup xs => okFs n xs && decide (xs.length ≤ lim)
  | n + 1, .scr xs => okFs n xs && decide (xs.length ≤ lim)
  | _ + 1, .non => true
  | _ + 1, .bl _ => true
  | _ + 1, .int _ => true
  | _ + 1, .str _ => true
  | _ + 1, .ins _ _ _ => false
  | _ + 1, .dic _ _ => false
def okFs : Nat → List D → Bool
  | _, [] => true
  | n, d :: ds => okF n d && okFs n ds
end
@[simp] theorem kit24 : kitB "NoneType" "list" = some false := by decide +kernel
@[simp] theorem kit25 : kitB "bool" "list" = some false := by decide +kernel
@[simp] theorem kit26 : kitB "bool" "tuple" = some false := by decide +kernel
@[simp] theorem kit27 : kitB "int" "list" = some false := by decide +kernel
@[simp] theorem kit28 : kitB "str" "list" = some false := by decide +kernel
theorem okFs_mem {n : Nat} : ∀ {ds : List D}, okFs n ds = true → ∀ d ∈ ds, okF n d = true
  | [], _, d, h => by cases h
  | x :: xs, e, d, h => by
    have e : (okF n x && okFs n xs) = true := e
    rw [Bool.and_eq_true] at e
    rcases List.mem_cons.mp h with q | q
    · rw [q]; exact e.1
    · exact okFs_mem e.2 d q
theorem frzDs_map : ∀ ds : List D, frzDs ds = ds.map frzD
  | [] => rfl
  | d :: ds => by show frzD d :: frzDs ds = _; rw [frzDs_map ds]; rfl
theorem frozen_N : ∀ (n : Nat) (t : Tg) (d : D), okT t = true → okF n d = true → gN_frozen n [(t, d)] = some (.N, frzD d)
  | 0, t, d, ht, h => by simp [okF] at h
  | n + 1, t, d, ht, h => by
    have ih := frozen_N n
    have hseq : ∀ xs : List D, okFs n xs = true → xs.length ≤ lim → ∀ t', okT t' = true → lcL sYes (sCall (gN_frozen n) (sCons (sVar 1) sNil)) (setV 1) ⟨[.val t' d, .un], []⟩ (xs.map fun x => nm (t', x)) = some (xs.map fun x => (Tg.N, frzD x)) := by
      intro xs hx hl t' ht'
      have key : ∀ rs : List D, (∀ x ∈ rs, okF n x = true) → lcL sYes (sCall (gN_frozen n) (sCons (sVar 1) sNil)) (setV 1) ⟨[.val t' d, .un], []⟩ (rs.map fun x => nm (t', x)) = some (rs.map fun x => (Tg.N, frzD x)) := by
        intro rs
        induction rs with
        | nil => intro _; rfl
        | cons r rs ihr =>
          intro hr
          have h1 := ihr fun x hx => hr x (List.mem_cons_of_mem _ hx)
          have h2 := hr r List.mem_cons_self
          rw [List.map_cons]
          unfold lcL
          rw [h1]
          cases t' with
          | N => simp [ih .N r rfl h2, okT]
          | B =>
            cases r <;> first | (cases n <;> simp [okF] at h2; done) | simp [ih .N _ rfl h2, ih .B _ rfl h2, okT]
          | T => exact Bool.noConfusion ht'
          | O => exact Bool.noConfusion ht'
      exact key xs (okFs_mem hx)
    unfold gN_frozen
    refine (gF_at (by rfl) (by simp [ht])).trans (Ok.eq ?_)
    have hn : ∀ xs : List D, okFs n xs = true → xs.length ≤ lim → d = .lst xs ∨ d = .scr xs ∨ d = .tup xs → Ok (F_frozen (gN_frozen n) (env0 N_frozen.length [(t, d)])) fun o => Ok (fin o) fun r => r = (Tg.N, .tup (xs.map frzD)) := by
      intro xs hx hl hd
      have hs := hseq xs hx hl t ht
      rcases hd with rfl | rfl | rfl <;> cases t <;> first | exact Bool.noConfusion ht | (try simp at hs) <;> simp [F_frozen, sIsi2, isi2D, hs, hl]
    cases d with
    | lst xs =>
      simp only [okF, Bool.and_eq_true, decide_eq_true_eq] at h
      rw [Ok_bind]
      refine (hn xs h.1 h.2 (.inl rfl)).mono fun o ho => ho.mono fun r hr => ?_
      rw [hr, frzD, frzDs_map]
    | scr xs =>
      simp only [okF, Bool.and_eq_true, decide_eq_true_eq] at h
      rw [Ok_bind]
      refine (hn xs h.1 h.2 (.inr (.inl rfl))).mono fun o ho => ho.mono fun r hr => ?_
      rw [hr, frzD, frzDs_map]
    | tup xs =>
      simp only [okF, Bool.and_eq_true, decide_eq_true_eq] at h
      rw [Ok_bind]
      refine (hn xs h.1 h.2 (.inr (.inr rfl))).mono fun o ho => ho.mono fun r hr => ?_
      rw [hr, frzD, frzDs_map]
    | ins _ _ _ => simp [okF] at h
    | dic _ _ => simp [okF] at h
    | non => simp [F_frozen, sIsi2, isi2D, frzD]
    | bl b => simp [F_frozen, sIsi2, isi2D, frzD]
    | int i => simp [F_frozen, sIsi2, isi2D, frzD]
    | str z => simp [F_frozen, sIsi2, isi2D, frzD]
theorem iRng_get {n : Nat} {k : Nat} {r : TD} (h : (iRng n 0)[k]? = some r) : k < n ∧ r = (.N, .int (k : Int)) := by
  unfold iRng at h
  rw [List.getElem?_map] at h
  obtain ⟨j, h1, rfl⟩ := Option.map_eq_some_iff.mp h
  have hi : k < n := by simpa using (List.getElem?_eq_some_iff.mp h1).1
  rw [List.getElem?_range hi] at h1
  cases h1
  exact ⟨hi, by simp⟩
theorem cutD_from (xs : List D) (a : Nat) : cutD xs (some (a : Int)) none = xs.drop a := by
  unfold cutD
  rw [HT.sIx_nat]
  show (xs.drop (min a xs.length)).take (xs.length - min a xs.length) = _
  by_cases h : a ≤ xs.length
  · rw [Nat.min_eq_left (a := a) h, List.take_of_length_le (by simp)]
  · have h9 : xs.length ≤ a := by omega
    rw [Nat.min_eq_right h9, List.drop_of_length_le (Nat.le_refl _), List.drop_of_length_le h9]
    simp
theorem cutD_to (xs : List D) (b : Nat) : cutD xs none (some (b : Int)) = xs.take b := by
  unfold cutD
  rw [HT.sIx_nat]
  show (xs.drop 0).take (min b xs.length - 0) = _
  rw [List.drop_zero, Nat.sub_zero]
  by_cases h : b ≤ xs.length
  · rw [Nat.min_eq_left h]
  · have h9 : xs.length ≤ b := by omega
    rw [Nat.min_eq_right h9, List.take_of_length_le (Nat.le_refl _), List.take_of_length_le h9]
theorem cell_at {ns : List Int} (hn : LawOk ns) (t : Tg) {i : Int} (h0 : 0 ≤ i) (h1 : i < 1000) : ∃ c, g_law_cell [(t, .scr (ns.map D.int)), (.N, .int i)] = some (.N, .int c) := by
  obtain ⟨m, rfl⟩ : ∃ m : Nat, i = (m : Int) := ⟨i.toNat, by omega⟩
  exact ⟨_, g_law_cell_at hn (by omega)⟩
theorem seq_step {A B : SX} {env : Ev} {Q P : OutX → Prop} (hA : Ok (A env) P) (hB : ∀ o, P o → ∃ e, o = .nx e ∧ Ok (B e) Q) : Ok (zSeq A B env) Q := by
  obtain ⟨o, h1, h2⟩ := hA
  obtain ⟨e, rfl, r, h3, h4⟩ := hB o h2
  refine ⟨r, ?_, h4⟩
  unfold zSeq
  rw [h1]
  exact h3
theorem sq_step {A B : FS} {env : Ev} {Q P : Out → Prop} (hA : Ok (A env) P) (hB : ∀ o, P o → ∃ e, o = .nx e ∧ Ok (B e) Q) : Ok (sSeq A B env) Q := by
  obtain ⟨o, h1, h2⟩ := hA
  obtain ⟨e, rfl, r, h3, h4⟩ := hB o h2
  refine ⟨r, ?_, h4⟩
  show (A env).bind _ = _
  rw [h1]
  exact h3
def bigL (n : Nat) : List Int := List.replicate n 549755813888
def szD (ss : List Int) : D := .lst (ss.map D.int)
structure RowOk (hd rw : List Int) (n : Nat) : Prop where
  len : rw.length = hd.length + n
  h : ∀ k (hk : k < hd.length), ∃ d, atI (rw.map D.int) (k : Int) = some (.int d) ∧ 0 ≤ d ∧ d < hd[k]
  t : ∀ d ∈ rw.drop hd.length, 0 ≤ d ∧ d < 1099511627776
theorem row_at (c : Int) (hd : List Int) {n : Nat} (hn : hd.length + n ≤ 1000) (hs : ∀ s ∈ hd, 0 < s ∧ s < 4611686018427387904) : ∃ rw : List Int, g_law_digits [(.N, .int c), (.N, szD (hd ++ bigL n))] = some (.N, .lst (rw.map D.int)) ∧ RowOk hd rw n := by
  have hsz : SizesOk (hd ++ bigL n) := by
    refine ⟨fun s h => ?_, by simp [bigL]; omega⟩
    rcases List.mem_append.mp h with h | h
    · exact hs s h
    · have := List.eq_of_mem_replicate h
      subst this
      decide
  have hlen := digitsM_len c (hd ++ bigL n)
  refine ⟨digitsM c (hd ++ bigL n), g_law_digits_at hsz, ⟨by rw [hlen]; simp [bigL], fun k hk => ?_, fun d hd' => ?_⟩⟩
  · obtain ⟨d, e, h1, h2⟩ := digitsM_get (c := c) hsz k (by simp [bigL]; omega)
    rw [List.getElem_append_left hk] at h2
    exact ⟨d, atI_nat (by rw [List.getElem?_map, e]; rfl), h1, h2⟩
  · obtain ⟨j, hj⟩ := List.mem_iff_getElem?.mp hd'
    have hj9 := (List.getElem?_eq_some_iff.mp hj).1
    rw [List.length_drop, hlen] at hj9
    obtain ⟨d', e, h1, h2⟩ := digitsM_get (c := c) hsz (hd.length + j) (by omega)
    rw [List.getElem?_drop, e] at hj
    cases hj
    rw [List.getElem_append_right (by omega)] at h2
    simp [bigL] at h2
    omega
theorem row_at0 (c : Int) (hd : List Int) (hn : hd.length ≤ 1000) (hs : ∀ s ∈ hd, 0 < s ∧ s < 4611686018427387904) : ∃ rw : List Int, g_law_digits [(.N, .int c), (.N, .lst (hd.map D.int))] = some (.N, .lst (rw.map D.int)) ∧ RowOk hd rw 0 := by
  obtain ⟨rw, h1, h2⟩ := row_at c hd (n := 0) (by omega) hs
  refine ⟨rw, ?_, h2⟩
  have : hd ++ bigL 0 = hd := by simp [bigL]
  rw [this] at h1
  exact h1
def Pg (n : Nat) (d : D) : Prop := pyOk d = true ∧ (py d).canLay0 = true ∧ (py d).depth ≤ n
theorem pg_str (n : Nat) {z : Str} (h : PyData.strOk z = true) : Pg n (.str z) := ⟨rfl, h, by show 0 ≤ n; omega⟩
theorem pg_all {n : Nat} {ds : List D} (h : ∀ d ∈ ds, Pg n d) : pyOkL ds = true ∧ PyData.canLayAll0 (pyL ds) = true ∧ PyData.depthAll (pyL ds) ≤ n := by
  induction ds with
  | nil => exact ⟨rfl, rfl, Nat.zero_le _⟩
  | cons d ds ih =>
    obtain ⟨q1, q2, q3⟩ := ih fun x hx => h x (List.mem_cons_of_mem _ hx)
    obtain ⟨r1, r2, r3⟩ := h d List.mem_cons_self
    refine ⟨?_, ?_, ?_⟩
    · show (pyOk d && pyOkL ds) = true
      rw [q1, r1]; rfl
    · show PyData.canLayAll0 (py d :: pyL ds) = true
      rw [PyData.canLayAll0, q2, r2]; rfl
    · show PyData.depthAll (py d :: pyL ds) ≤ n
      rw [PyData.depthAll]
      omega
theorem pg_lst {n : Nat} {ds : List D} (h : ∀ d ∈ ds, Pg n d) : Pg (n + 1) (.lst ds) := by
  obtain ⟨q1, q2, q3⟩ := pg_all h
  refine ⟨by rw [pyOk]; exact q1, by rw [py, PyData.canLay0]; exact q2, ?_⟩
  rw [py, PyData.depth]
  omega
theorem pg_tup {n : Nat} {ds : List D} (h : ∀ d ∈ ds, Pg n d) : Pg (n + 1) (.tup ds) := by
  obtain ⟨q1, q2, q3⟩ := pg_all h
  refine ⟨by rw [pyOk]; exact q1, by rw [py, PyData.canLay0]; exact q2, ?_⟩
  rw [py, PyData.depth]
  omega
end Lw
namespace Lw
open PySem L2 Vf
theorem in_strs {t u : Tg} {z : Str} {zs : List Str} : oIn (t, .str z) (u, .lst (zs.map D.str)) = some (.N, .bl (decide (z ∈ zs))) := by
  rw [oIn_lst (by simp [isS])]
  congr 3
  induction zs with
  | nil => simp
  | cons y ys ih =>
    simp only [List.map_cons, List.any_cons, ih]
    have e : eqS (.str y) (.str z) = decide (y = z) := rfl
    rw [e]
    by_cases h : z = y
    · subst h; simp
    · have h' : ¬ y = z := fun e => h e.symm
      simp [h, h']
theorem in_tstrs {t u : Tg} {z : Str} {zs : List Str} : oIn (t, .str z) (u, .tup (zs.map D.str)) = some (.N, .bl (decide (z ∈ zs))) := by
  rw [oIn_tup (by simp [isS])]
  congr 3
  induction zs with
  | nil => simp
  | cons y ys ih =>
    simp only [List.map_cons, List.any_cons, ih]
    have e : eqS (.str y) (.str z) = decide (y = z) := rfl
    rw [e]
    by_cases h : z = y
    · subst h; simp
    · have h' : ¬ y = z := fun e => h e.symm
      simp [h, h']
/-! two entries, two rows, two states -/
def mE (a b : Str) : Str := if a = b then a else if a = "unset" ∨ b = "unset" then "unset" else "mixed"
def fE (a b : Str) : Bool := decide (a = b) || (decide (b = "unset") || (decide (b = "mixed") && !decide (a = "unset")))
structure St where
  sl : List Str
  sk : List Str
def rwD (l : List Str) : D := .tup (l.map .str)
def stD (s : St) : D := .tup [rwD s.sl, rwD s.sk]
def mR (a b : List Str) : List Str := List.zipWith mE a b
def mS (a b : St) : St := ⟨mR a.sl b.sl, mR a.sk b.sk⟩
def fR (a b : List Str) : Bool := (List.zipWith fE a b).all id
def fS (a b : St) : Bool := decide (a.sl.length = b.sl.length) && decide (a.sk.length = b.sk.length) && fR a.sl b.sl && fR a.sk b.sk
theorem mu : ("mixed" : Str) ≠ "unset" := by decide +kernel
theorem mE_assoc (a b c : Str) : mE (mE a b) c = mE a (mE b c) := by
  have := mu
  unfold mE
  grind
theorem fE_mE (a b c : Str) : fE (mE (mE a b) c) c = (fE a c && fE b c) := by
  have := mu
  unfold fE mE
  grind
theorem in_two {t u : Tg} {z a b : Str} : oIn (t, .str z) (u, .lst [.str a, .str b]) = some (.N, .bl (decide (z = a ∨ z = b))) := by
  have := in_strs (t := t) (u := u) (z := z) (zs := [a, b])
  simpa using this
theorem in_two2 {t u : Tg} {z a b : Str} : oIn (t, .str z) (u, .tup [.str a, .str b]) = some (.N, .bl (decide (z = a ∨ z = b))) := by
  have := in_tstrs (t := t) (u := u) (z := z) (zs := [a, b])
  simpa using this
theorem mE_no {a b : Str} (h : ¬ a = b) : mE a b = if ("unset" : Str) = a ∨ ("unset" : Str) = b then "unset" else "mixed" := by
  unfold mE
  rw [if_neg h]
  by_cases h2 : a = "unset" ∨ b = "unset"
  · rw [if_pos h2, if_pos (by rcases h2 with h | h <;> simp [h])]
  · rw [if_neg h2, if_neg (fun h => h2 (by rcases h with h | h <;> simp [h]))]
theorem l2 : 2 ≤ lim := by decide
theorem at1 {a b : D} : atI [a, b] 1 = some b := rfl
theorem at0 {a b : D} : atI [a, b] 0 = some a := rfl
theorem mu2 : ¬ (Str.ofString "mixed" = Str.ofString "unset") := mu
theorem lme_at (a b : Str) : g_law_merged_entry [(.N, .str a), (.N, .str b)] = some (.N, .str (mE a b)) := by
  refine (gF_at (by rfl) (by rfl)).trans (Ok.eq ?_)
  by_cases h : a = b
  · subst h
    simp [F_law_merged_entry, mE]
  · rw [mE_no h]
    by_cases h2 : ("unset" : Str) = a ∨ ("unset" : Str) = b
    · rw [if_pos h2]
      simp [F_law_merged_entry, h, in_two, h2, l2, at1, at0]
    · rw [if_neg h2]
      simp [F_law_merged_entry, h, in_two, h2, l2, at1, at0]
theorem lef_at (a b : Str) : g_law_entry_fits [(.N, .str a), (.N, .str b)] = some (.N, .bl (fE a b)) := by
  refine (gF_at (by rfl) (by rfl)).trans (Ok.eq ?_)
  by_cases h : a = b <;> by_cases h2 : b = "unset" <;> by_cases h3 : b = "mixed" <;> by_cases h4 : a = "unset" <;> simp_all [F_law_entry_fits, fE, mu2]
theorem me_at (a b : Str) (T : Tb) : g_merged_entry [.pu (.str a), .pu (.str b)] T = some (.val (.pu (.str (mE a b))) T) := by
  unfold g_merged_entry
  rw [gFX_at (by rfl)]
  refine Ok.eq ?_
  by_cases h : a = b
  · subst h
    simp [F_merged_entry, mE]
  · rw [mE_no h]
    by_cases h2 : ("unset" : Str) = a ∨ ("unset" : Str) = b
    · rw [if_pos h2]
      simp [F_merged_entry, h, in_two2, h2, G_UNSET, l2]
    · rw [if_neg h2]
      simp [F_merged_entry, h, in_two2, h2, G_UNSET, G_MIXED, l2]
theorem fe_at (a b : Str) (T : Tb) : g_fits_entry [.pu (.str a), .pu (.str b)] T = some (.val (.pu (.bl (fE a b))) T) := by
  unfold g_fits_entry
  rw [gFX_at (by rfl)]
  refine Ok.eq ?_
  by_cases h : a = b <;> by_cases h2 : b = "unset" <;> by_cases h3 : b = "mixed" <;> by_cases h4 : a = "unset" <;> simp_all [F_fits_entry, fE, mu2, G_UNSET, G_MIXED]
end Lw
namespace Lw
open PySem L2 Vf
/-! what the law makes of rows and states -/
theorem st0 {s : St} : oIx (.N, stD s) (.N, .int 0) = some (.N, rwD s.sl) := rfl
theorem st1 {s : St} : oIx (.N, stD s) (.N, .int 1) = some (.N, rwD s.sk) := rfl
theorem rw_at {l : List Str} {k : Nat} {z : Str} (h : l[k]? = some z) : oIx (.N, rwD l) (.N, .int (k : Int)) = some (.N, .str z) := by
  have h2 : atI (l.map D.str) (k : Int) = some (.str z) := atI_nat (by rw [List.getElem?_map, h]; rfl)
  refine Ok.eq ?_
  simp [rwD, h2]
theorem rw_len {l : List Str} : lenB [(.N, rwD l)] = some (.N, .int (l.length : Int)) := by
  refine Ok.eq ?_
  simp [rwD]
theorem rng_map (n : Nat) : iRng n 0 = (List.range n).map fun k : Nat => (Tg.N, D.int (k : Int)) := by
  unfold iRng
  refine List.map_congr_left fun k _ => by rw [Int.zero_add]
theorem lc_rows {env : Ev} {fe : FE} {s : TD → Ev → Option Ev} {a b : List Str} (hl : a.length = b.length) (h : ∀ (k : Nat) (x y : Str), a[k]? = some x → b[k]? = some y → Ok (s (.N, .int (k : Int)) env) fun e => Ok (fe e) fun r => r = (.N, .str (mE x y))) :
    lcL sYes fe s env (iRng a.length 0) = some ((mR a b).map fun z => (Tg.N, D.str z)) := by
  have e : (mR a b).map (fun z => (Tg.N, D.str z)) = (List.range a.length).map fun k => (Tg.N, D.str (mE (a.getD k "") (b.getD k ""))) := by
    refine List.ext_getElem (by simp [mR]; omega) fun i h1 h2 => ?_
    simp only [List.length_map, List.length_range] at h2
    simp [mR, List.getD_eq_getElem?_getD, h2, show i < b.length by omega]
  rw [rng_map, e]
  refine lcL_mapN (g := fun k : Nat => D.int (k : Int)) (h := fun k => D.str (mE (a.getD k "") (b.getD k ""))) fun k hk => ?_
  have hk := List.mem_range.mp hk
  have h1 : a[k]? = some a[k] := List.getElem?_eq_getElem hk
  have h2 : b[k]? = some (b[k]'(by omega)) := List.getElem?_eq_getElem (by omega)
  have := h k _ _ h1 h2
  simpa [List.getD_eq_getElem?_getD, h1, h2] using this
def lsD (l : List Str) : D := .lst (l.map .str)
theorem tup_ls {l : List Str} : tupB [(.N, lsD l)] = some (.N, rwD l) := by
  refine Ok.eq ?_
  simp [lsD, rwD]
theorem tag_strs {l : List Str} : tagL (l.map fun z => (Tg.N, D.str z)) = .N := by
  induction l with
  | nil => rfl
  | cons z l ih => simp [tagL, ih]
structure StOk (s : St) : Prop where
  nl : s.sl.length ≤ 17
  nk : s.sk.length ≤ 17
  ol : ∀ z ∈ s.sl, PyData.strOk z = true
  ok : ∀ z ∈ s.sk, PyData.strOk z = true
theorem lmS_at {a b : St} (ha : StOk a) (h1 : a.sl.length = b.sl.length) (h2 : a.sk.length = b.sk.length) : g_law_merged [(.N, stD a), (.N, stD b)] = some (.N, stD (mS a b)) := by
  refine (gF_at (by rfl) (by rfl)).trans (Ok.eq ?_)
  have n1 := ha.nl
  have n2 := ha.nk
  have c1 : (a.sl.length : Int) < 4611686018427387904 := by omega
  have c2 : (a.sk.length : Int) < 4611686018427387904 := by omega
  have c3 : a.sl.length ≤ lim := Nat.le_trans n1 (by decide)
  have c4 : a.sk.length ≤ lim := Nat.le_trans n2 (by decide)
  have e1 : lcL sYes (sCall g_law_merged_entry (sCons (sOp oIx (sOp oIx (sVar 0) (sLit (D.int 0))) (sVar 3)) (sCons (sOp oIx (sOp oIx (sVar 1) (sLit (D.int 0))) (sVar 3)) sNil))) (setV 3)
      ⟨[Sl.val Tg.N (stD a), Sl.val Tg.N (stD b), Sl.un, Sl.un], []⟩ (iRng a.sl.length 0) = some ((mR a.sl b.sl).map fun z => (Tg.N, D.str z)) := by
    refine lc_rows h1 fun k x y q1 q2 => ?_
    simp [st0, rw_at q1, rw_at q2, lme_at]
  have e2 : ∀ d, lcL sYes (sCall g_law_merged_entry (sCons (sOp oIx (sOp oIx (sVar 0) (sLit (D.int 1))) (sVar 3)) (sCons (sOp oIx (sOp oIx (sVar 1) (sLit (D.int 1))) (sVar 3)) sNil))) (setV 3)
      ⟨[Sl.val Tg.N (stD a), Sl.val Tg.N (stD b), Sl.val Tg.N d, Sl.un], []⟩ (iRng a.sk.length 0) = some ((mR a.sk b.sk).map fun z => (Tg.N, D.str z)) := by
    intro d
    refine lc_rows h2 fun k x y q1 q2 => ?_
    simp [st1, rw_at q1, rw_at q2, lme_at]
  simp [F_law_merged, st0, st1, rw_len, c1, c2, c3, c4, e1, e2, tag_strs]
  exact ⟨l2, rfl⟩
end Lw
namespace Lw
open PySem L2 Vf
/-! what the law asks of states -/
theorem sq_if {c : FT} {A B : FS} {env : Ev} {Q : Out → Prop} {b : Bool} (hc : c env = some b) (ht : b = true → ∃ r, A env = some (.rt r) ∧ Q (.rt r)) (hf : b = false → Ok (B env) Q) : Ok (sSeq (sIf c A sNx) B env) Q := by
  cases b with
  | true =>
    obtain ⟨r, h1, h2⟩ := ht rfl
    exact ⟨.rt r, by rw [sSeq_rt]; rw [sIf_t hc]; exact h1, h2⟩
  | false =>
    obtain ⟨o, h1, h2⟩ := hf rfl
    exact ⟨o, by rw [sSeq_nx (e2 := env)]; exact h1; rw [sIf_f hc]; rfl, h2⟩
theorem sq_mid {A B : FS} {env : Ev} {Q : Out → Prop} (P : Ev → Prop) (h : Ok (A env) fun o => match o with | .nx e => P e | .rt r => Q (.rt r) | _ => False) (hB : ∀ e, P e → Ok (B e) Q) : Ok (sSeq A B env) Q := by
  obtain ⟨o, h1, h2⟩ := h
  cases o with
  | nx e =>
    obtain ⟨o, h3, h4⟩ := hB e h2
    exact ⟨o, by rw [sSeq_nx (e2 := e) h1]; exact h3, h4⟩
  | rt r => exact ⟨.rt r, by rw [sSeq_rt h1], h2⟩
  | bk e => exact h2.elim
  | ct e => exact h2.elim
  | rth x T => exact h2.elim
def St.pt (s : St) : Nat → List Str | 0 => s.sl | _ => s.sk
theorem st_at {s : St} {k : Nat} (h : k < 2) : oIx (.N, stD s) (.N, .int (k : Int)) = some (.N, rwD (s.pt k)) := by
  match k, h with
  | 0, _ => rfl
  | 1, _ => rfl
theorem st_len {s : St} : lenB [(.N, stD s)] = some (.N, .int 2) := rfl
theorem st_tup {s : St} : isiD (stD s) "tuple" = some true := rfl
theorem rw_tup {l : List Str} : isiD (rwD l) "tuple" = some true := rfl
theorem pt_len {s : St} (h : StOk s) (k : Nat) : (s.pt k).length ≤ 17 := by
  unfold St.pt
  split
  · exact h.nl
  · exact h.nk
theorem fR_true {a b : List Str} (h : ∀ (i : Nat) (x y : Str), a[i]? = some x → b[i]? = some y → fE x y = true) : fR a b = true := by
  unfold fR
  rw [List.all_eq_true]
  intro q hq
  obtain ⟨i, hi⟩ := List.mem_iff_getElem?.mp hq
  rw [List.getElem?_zipWith] at hi
  split at hi
  · rename_i x y e1 e2
    cases hi
    exact h i x y e1 e2
  · cases hi
theorem fR_false {a b : List Str} {i : Nat} {x y : Str} (h1 : a[i]? = some x) (h2 : b[i]? = some y) (h : fE x y = false) : fR a b = false := by
  unfold fR
  rw [Bool.eq_false_iff]
  intro q
  rw [List.all_eq_true] at q
  have := q (fE x y) (List.mem_iff_getElem?.mpr ⟨i, by rw [List.getElem?_zipWith, h1, h2]⟩)
  rw [h] at this
  cases this
theorem same_at {s : St} (h : StOk s) : g_law_same_state [(.N, stD s), (.N, stD s)] = some (.N, .bl true) := by
  refine Ok.eq ?_
  unfold g_law_same_state
  rw [gF_at (by rfl) (by rfl), Ok_bind]
  unfold F_law_same_state
  have e0 : env0 N_law_same_state.length [(.N, stD s), (.N, stD s)] = ⟨[.val .N (stD s), .val .N (stD s), .un, .un], []⟩ := rfl
  rw [e0]
  clear e0
  refine sq_if (b := false) (Ok.eq (by simp [st_tup, st_len])) (fun h => by cases h) fun _ => ?_
  refine sq_step (P := fun o => ∃ s2 s3, o = .nx ⟨[.val .N (stD s), .val .N (stD s), s2, s3], []⟩) ?_ ?_
  · have hfi : (sR1 (sLit (.int 2))) ⟨[.val .N (stD s), .val .N (stD s), .un, .un], []⟩ = some (iRng 2 0) := Ok.eq (by simp)
    rw [sFor_at hfi]
    refine forL_ok (fun k env => ∃ s2 s3, env = ⟨[.val .N (stD s), .val .N (stD s), s2, s3], []⟩) ⟨_, _, rfl⟩ ?_ ?_
    · rintro k r env hk ⟨s2, s3, rfl⟩
      obtain ⟨hk1, rfl⟩ := iRng_get hk
      have n1 := pt_len h k
      refine ⟨⟨[.val .N (stD s), .val .N (stD s), .val .N (.int (k : Int)), s3], []⟩, by simp, ?_⟩
      show Ok (B_law_same_state_1 _) _
      unfold B_law_same_state_1
      refine sq_if (b := false) (Ok.eq (by simp [st_at hk1, rw_tup, rw_len])) (fun h => by cases h) fun _ => ?_
      have hfi : (sR1 (sB lenB (sCons (sOp oIx (sVar 1) (sVar 2)) sNil))) ⟨[.val .N (stD s), .val .N (stD s), .val .N (.int (k : Int)), s3], []⟩ = some (iRng (s.pt k).length 0) := by
        refine Ok.eq ?_
        simp [st_at hk1, rw_len]
        omega
      rw [sFor_at hfi]
      refine forL_ok (fun j env => ∃ s3, env = ⟨[.val .N (stD s), .val .N (stD s), .val .N (.int (k : Int)), s3], []⟩) ⟨_, rfl⟩ ?_ ?_
      · rintro j r env hj ⟨s3, rfl⟩
        obtain ⟨hj1, rfl⟩ := iRng_get hj
        have hz : (s.pt k)[j]? = some (s.pt k)[j] := List.getElem?_eq_getElem hj1
        generalize (s.pt k)[j] = z at hz
        refine ⟨⟨[.val .N (stD s), .val .N (stD s), .val .N (.int (k : Int)), .val .N (.int (j : Int))], []⟩, by simp, ?_⟩
        show Ok (B_law_same_state_2 _) _
        unfold B_law_same_state_2
        simp [st_at hk1, rw_at hz]
      · rintro env ⟨s3, rfl⟩
        exact ⟨_, _, rfl⟩
    · rintro env ⟨s2, s3, rfl⟩
      exact ⟨_, _, rfl⟩
  rintro o ⟨s2, s3, rfl⟩
  refine ⟨_, rfl, ?_⟩
  simp
theorem lfS_at {a b : St} (ha : StOk a) (hb : StOk b) : g_law_state_fits [(.N, stD a), (.N, stD b)] = some (.N, .bl (fS a b)) := by
  refine Ok.eq ?_
  unfold g_law_state_fits
  rw [gF_at (by rfl) (by rfl), Ok_bind]
  unfold F_law_state_fits
  have e0 : env0 N_law_state_fits.length [(.N, stD a), (.N, stD b)] = ⟨[.val .N (stD a), .val .N (stD b), .un, .un], []⟩ := rfl
  rw [e0]
  clear e0
  by_cases hq : a.sl.length = b.sl.length ∧ a.sk.length = b.sk.length
  case neg =>
    have hf : fS a b = false := by
      unfold fS
      by_cases q1 : a.sl.length = b.sl.length
      · have q2 : ¬ a.sk.length = b.sk.length := fun e => hq ⟨q1, e⟩
        simp [q2]
      · simp [q1]
    refine sq_if (b := true) (Ok.eq ?_) (fun _ => ?_) fun h => by cases h
    · simp [st0, st1, rw_len]
      omega
    · simp [hf]
  obtain ⟨q1, q2⟩ := hq
  have hl : ∀ k, (a.pt k).length = (b.pt k).length := fun k => by
    unfold St.pt
    split
    · exact q1
    · exact q2
  have hf : ∀ k, k < 2 → fR (a.pt k) (b.pt k) = false → fS a b = false := fun k hk e => by
    match k, hk with
    | 0, _ => have e : fR a.sl b.sl = false := e; simp [fS, e]
    | 1, _ => have e : fR a.sk b.sk = false := e; simp [fS, e]
  refine sq_if (b := false) (Ok.eq (by simp [st0, st1, rw_len, q1, q2])) (fun h => by cases h) fun _ => ?_
  refine sq_mid (fun e => (∀ k, k < 2 → fR (a.pt k) (b.pt k) = true) ∧ ∃ s2 s3, e = ⟨[.val .N (stD a), .val .N (stD b), s2, s3], []⟩) ?_ ?_
  · have hfi : (sR1 (sLit (.int 2))) ⟨[.val .N (stD a), .val .N (stD b), .un, .un], []⟩ = some (iRng 2 0) := Ok.eq (by simp)
    rw [sFor_at hfi]
    refine forL_ok (fun k e => (∀ j, j < k → fR (a.pt j) (b.pt j) = true) ∧ ∃ s2 s3, e = ⟨[.val .N (stD a), .val .N (stD b), s2, s3], []⟩) ⟨fun j hj => by omega, _, _, rfl⟩ ?_ ?_
    · rintro k r env hk ⟨hK, s2, s3, rfl⟩
      obtain ⟨hk1, rfl⟩ := iRng_get hk
      have n1 := pt_len ha k
      have hlk := hl k
      refine ⟨⟨[.val .N (stD a), .val .N (stD b), .val .N (.int (k : Int)), s3], []⟩, by simp, ?_⟩
      show Ok (B_law_state_fits_1 _) _
      unfold B_law_state_fits_1
      have hfi : (sR1 (sB lenB (sCons (sOp oIx (sVar 0) (sVar 2)) sNil))) ⟨[.val .N (stD a), .val .N (stD b), .val .N (.int (k : Int)), s3], []⟩ = some (iRng (a.pt k).length 0) := by
        refine Ok.eq ?_
        simp [st_at hk1, rw_len]
        omega
      rw [sFor_at hfi]
      refine forL_ok (fun j e => (∀ i, i < j → ∀ x y, (a.pt k)[i]? = some x → (b.pt k)[i]? = some y → fE x y = true) ∧ ∃ s3, e = ⟨[.val .N (stD a), .val .N (stD b), .val .N (.int (k : Int)), s3], []⟩) ⟨fun i hi => by omega, _, rfl⟩ ?_ ?_
      · rintro j r env hj ⟨hJ, s3, rfl⟩
        obtain ⟨hj1, rfl⟩ := iRng_get hj
        have hz : (a.pt k)[j]? = some (a.pt k)[j] := List.getElem?_eq_getElem hj1
        have hy : (b.pt k)[j]? = some ((b.pt k)[j]'(by omega)) := List.getElem?_eq_getElem (by omega)
        generalize (a.pt k)[j] = z at hz
        generalize ((b.pt k)[j]'(by omega)) = y at hy
        refine ⟨⟨[.val .N (stD a), .val .N (stD b), .val .N (.int (k : Int)), .val .N (.int (j : Int))], []⟩, by simp, ?_⟩
        show Ok (B_law_state_fits_2 _) _
        unfold B_law_state_fits_2
        cases hfe : fE z y with
        | true =>
          simp [st_at hk1, rw_at hz, rw_at hy, lef_at, hfe]
          intro i hi x' y' h1 h2
          rcases Nat.lt_succ_iff_lt_or_eq.mp hi with q | rfl
          · exact hJ i q x' y' h1 h2
          · rw [hz] at h1
            rw [hy] at h2
            cases h1
            cases h2
            exact hfe
        | false =>
          simp [st_at hk1, rw_at hz, rw_at hy, lef_at, hfe]
          exact hf k hk1 (fR_false hz hy hfe)
      · rintro env ⟨hJ, s3, rfl⟩
        have e9 : (iRng (a.pt k).length 0).length = (a.pt k).length := by simp [iRng]
        rw [e9] at hJ
        refine ⟨fun j hj => ?_, _, _, rfl⟩
        rcases Nat.lt_succ_iff_lt_or_eq.mp hj with q | rfl
        · exact hK j q
        · exact fR_true fun i x y h1 h2 => hJ i (List.getElem?_eq_some_iff.mp h1).1 x y h1 h2
    · rintro env ⟨hK, s2, s3, rfl⟩
      exact ⟨hK, _, _, rfl⟩
  rintro e ⟨hK, s2, s3, rfl⟩
  have hf9 : fS a b = true := by
    have r1 : fR a.sl b.sl = true := hK 0 (by omega)
    have r2 : fR a.sk b.sk = true := hK 1 (by omega)
    simp [fS, q1, q2, r1, r2]
  simp [hf9]
end Lw
namespace Lw
open PySem L2 Vf
/-! a state as it is shown, frozen -/
theorem td_lst {T : Tb} {ds : List D} : tdX (T ++ [some (.lst (ds.map HV.pu))]) (.ob T.length) = some (.T, .lst ds) := by
  rw [tdX_ob (M := .lst (ds.map HV.pu)) (by simp)]
  show (Option.map _ (Option.map _ (mapO _ _))) = _
  rw [mapO_pus]
  rfl
theorem tup_pus {T : Tb} {l : List D} : tupOfK (.ob T.length) (T ++ [some (.lst (l.map HV.pu))]) = some (.val (.pu (.tup l)) (T ++ [some (.lst (l.map HV.pu))])) := by
  have hsr2 : srcM (T ++ [some (.lst (l.map HV.pu))]) (.ob T.length) = some (.lst (l.map HV.pu)) := by unfold srcM; simp
  unfold tupOfK
  rw [hsr2]
  show (match pures (l.map HV.pu) with
    | some ds => some (XRes.val (HV.pu (.tup ds)) _)
    | none => _) = _
  rw [pures_map]
def shD (s : St) : Nat → D
  | 0 => stD s
  | 1 => .lst [lsD s.sl, lsD s.sk]
  | _ => .tup [rwD s.sl, lsD s.sk]
theorem lst_rw {l : List Str} : listB [(.N, rwD l)] = some (.N, l.map D.str) := rfl
theorem shown_at {s : St} (h : StOk s) {f : Nat} (hf : f < 3) : g_law_shown [(.N, stD s), (.N, .int (f : Int))] = some (.N, shD s f) := by
  refine (gF_at (by rfl) (by rfl)).trans (Ok.eq ?_)
  have l3 : 3 ≤ lim := by decide
  have n1 : s.sl.length ≤ lim := Nat.le_trans h.nl (by decide)
  have n2 : s.sk.length ≤ lim := Nat.le_trans h.nk (by decide)
  match f, hf with
  | 0, _ => simp [F_law_shown, st0, st1, lst_rw, l2, l3, n1, n2]; exact ⟨_, rfl, rfl⟩
  | 1, _ => simp [F_law_shown, st0, st1, lst_rw, l2, l3, n1, n2]; exact ⟨_, rfl, rfl⟩
  | 2, _ => simp [F_law_shown, st0, st1, lst_rw, l2, l3, n1, n2]; exact ⟨_, rfl, rfl⟩
theorem okFs_strs (n : Nat) : ∀ l : List Str, okFs (n + 1) (l.map D.str) = true
  | [] => by rw [List.map_nil, okFs]
  | z :: l => by rw [List.map_cons, okFs, okF, okFs_strs n l]; rfl
theorem frz_strs : ∀ l : List Str, frzDs (l.map D.str) = l.map D.str
  | [] => by rw [List.map_nil, frzDs]
  | z :: l => by rw [List.map_cons, frzDs, frz_strs l, show frzD (.str z) = .str z from by simp [frzD]]
theorem frzD_rw (l : List Str) : frzD (rwD l) = rwD l := by
  unfold rwD
  rw [frzD, frz_strs]
theorem frzD_ls (l : List Str) : frzD (lsD l) = rwD l := by
  unfold lsD rwD
  rw [frzD, frz_strs]
theorem okF_rw {l : List Str} (h : l.length ≤ 17) (n : Nat) : okF (n + 2) (rwD l) = true := by
  have : l.length ≤ lim := Nat.le_trans h (by decide)
  unfold rwD
  rw [okF, okFs_strs]
  simpa using this
theorem okF_ls {l : List Str} (h : l.length ≤ 17) (n : Nat) : okF (n + 2) (lsD l) = true := by
  have : l.length ≤ lim := Nat.le_trans h (by decide)
  unfold lsD
  rw [okF, okFs_strs]
  simpa using this
theorem frz_two {a b c d : D} (h1 : frzD a = c) (h2 : frzD b = d) : frzDs [a, b] = [c, d] := by
  rw [frzDs, frzDs, frzDs, h1, h2]
theorem okFs_two {n : Nat} {a b : D} (h1 : okF n a = true) (h2 : okF n b = true) : okFs n [a, b] = true := by
  rw [okFs, okFs, okFs, h1, h2]
  rfl
theorem frozen_sh {s : St} (h : StOk s) (f : Nat) : g_frozen [(.N, shD s f)] = some (.N, stD s) := by
  have e : frzD (shD s f) = stD s ∧ okF 9 (shD s f) = true := by
    unfold shD
    split
    · unfold stD
      exact ⟨by rw [frzD, frz_two (frzD_rw _) (frzD_rw _)], by rw [okF, okFs_two (okF_rw h.nl 6) (okF_rw h.nk 6)]; simp [l2]⟩
    · exact ⟨by rw [frzD, frz_two (frzD_ls _) (frzD_ls _)]; rfl, by rw [okF, okFs_two (okF_ls h.nl 6) (okF_ls h.nk 6)]; simp [l2]⟩
    · exact ⟨by rw [frzD, frz_two (frzD_rw _) (frzD_ls _)]; rfl, by rw [okF, okFs_two (okF_rw h.nl 6) (okF_ls h.nk 6)]; simp [l2]⟩
  show gN_frozen 9 _ = _
  rw [frozen_N 9 .N _ rfl e.2, e.1]
theorem pg_strs {l : List Str} (h : ∀ z ∈ l, PyData.strOk z = true) : ∀ d ∈ l.map D.str, Pg 0 d := fun d hd => by
  obtain ⟨z, hz, rfl⟩ := List.mem_map.mp hd
  exact pg_str 0 (h z hz)
theorem pg_sh {s : St} (h : StOk s) (f : Nat) : Pg 2 (shD s f) := by
  have a1 : Pg 1 (rwD s.sl) := pg_tup (pg_strs h.ol)
  have a2 : Pg 1 (rwD s.sk) := pg_tup (pg_strs h.ok)
  have b1 : Pg 1 (lsD s.sl) := pg_lst (pg_strs h.ol)
  have b2 : Pg 1 (lsD s.sk) := pg_lst (pg_strs h.ok)
  have two : ∀ a b : D, Pg 1 a → Pg 1 b → ∀ d ∈ [a, b], Pg 1 d := fun a b ha hb d hd => by
    simp only [List.mem_cons, List.not_mem_nil, or_false] at hd
    rcases hd with rfl | rfl
    · exact ha
    · exact hb
  unfold shD
  split
  · exact pg_tup (two _ _ a1 a2)
  · exact pg_lst (two _ _ b1 b2)
  · exact pg_tup (two _ _ a1 b2)
theorem eq_sh {s : St} (h : StOk s) (f : Nat) : eqD (shD s f) (shD s f) = some true := by
  have q := pg_sh h f
  exact eqD_same q.1 q.2.1 (Nat.le_trans q.2.2 (by decide))
/-! comprehensions over pairs -/
theorem lcF_pu {α : Type} {fe : FX} {s : TD → Ev → Option Ev} {sl : List Sl} {f h : α → D} : ∀ (xs : List α) (T : Tb), (∀ a ∈ xs, ∀ T, ∃ e T', s (.N, f a) ⟨sl, T⟩ = some e ∧ e.t = T ∧ fe e = some (.val (.pu (h a)) T')) →
    ∃ T', lcF xYes fe s sl (xs.map fun a => (Tg.N, f a)) T = some (xs.map fun a => HV.pu (h a), T')
  | [], T, _ => ⟨T, rfl⟩
  | a :: xs, T, hh => by
    obtain ⟨e, T1, h1, rfl, h2⟩ := hh a (List.mem_cons_self ..) T
    obtain ⟨T2, h3⟩ := lcF_pu (fe := fe) (s := s) (sl := sl) (f := f) (h := h) xs T1 fun b hb => hh b (List.mem_cons_of_mem _ hb)
    refine ⟨T2, ?_⟩
    rw [List.map_cons, List.map_cons, lcF, if_pos (show okT (Tg.N, f a).1 = true from rfl), h1]
    have e1 : valX (xYes e) = some (true, e.t) := rfl
    have e2 : valX (fe ⟨e.s, e.t⟩) = some (.pu (h a), T1) := by
      have e3 : fe ⟨e.s, e.t⟩ = some (.val (.pu (h a)) T1) := h2
      rw [e3]
      rfl
    simp [e1, e2, h3]
theorem zp_map {t : Tg} : ∀ (a b : List D), dZp t a b = (a.zip b).map fun p => (t, D.tup [p.1, p.2])
  | [], _ => rfl
  | _ :: _, [] => rfl
  | x :: a, y :: b => by
    show _ :: dZp t a b = _
    rw [zp_map a b]
    rfl
theorem zp_strs (a b : List Str) : dZp .N (a.map D.str) (b.map D.str) = (a.zip b).map fun p => (Tg.N, D.tup [.str p.1, .str p.2]) := by
  rw [zp_map, List.zip_map]
  simp
theorem mR_zip (a b : List Str) : mR a b = (a.zip b).map fun p => mE p.1 p.2 := by
  unfold mR
  rw [List.zip_eq_zipWith, List.map_zipWith]
theorem mRow_at {a b : List Str} (h : a.length ≤ 17) (T : Tb) : ∃ T', g_merged_entries [.pu (rwD a), .pu (rwD b)] T = some (.val (.pu (rwD (mR a b))) T') := by
  unfold g_merged_entries
  rw [gFX_at (by rfl)]
  have hz : (sZipS (sVar 0) (sVar 1)) ⟨[.val .N (rwD a), .val .N (rwD b), .un], T⟩ = some ((a.zip b).map fun p => (Tg.N, D.tup [.str p.1, .str p.2])) := by
    rw [← zp_strs]
    rfl
  have hl : ((a.zip b).map fun p => (Tg.N, D.tup [.str p.1, .str p.2])).length ≤ lim := by
    rw [List.length_map, List.length_zip]
    exact Nat.le_trans (Nat.min_le_left _ _) (Nat.le_trans h (by decide))
  obtain ⟨T1, h1⟩ := lcF_pu (fe := xCall g_merged_entry (xStar (xE (sVar 2)))) (s := setV 2) (sl := [.val .N (rwD a), .val .N (rwD b), .un]) (f := fun p : Str × Str => D.tup [.str p.1, .str p.2]) (h := fun p => D.str (mE p.1 p.2)) (a.zip b) T fun p hp T => by
    refine ⟨⟨[.val .N (rwD a), .val .N (rwD b), .val .N (.tup [.str p.1, .str p.2])], T⟩, T, rfl, rfl, ?_⟩
    have e : xStar (xE (sVar 2)) ⟨[.val .N (rwD a), .val .N (rwD b), .val .N (.tup [.str p.1, .str p.2])], T⟩ = some (.val [.pu (.str p.1), .pu (.str p.2)] T) := rfl
    rw [xCall_eq, e]
    exact me_at p.1 p.2 T
  have h2 : xLcF (sZipS (sVar 0) (sVar 1)) (setV 2) xYes (xCall g_merged_entry (xStar (xE (sVar 2)))) [2] ⟨[.val .N (rwD a), .val .N (rwD b), .un], T⟩ = some (.val (.ob T1.length) (T1 ++ [some (.lst (((mR a b).map D.str).map HV.pu))])) := by
    unfold xLcF
    rw [if_pos (by rfl), hz]
    show (if _ ≤ lim then _ else none) = _
    rw [if_pos hl]
    show (lcF xYes _ _ [.val .N (rwD a), .val .N (rwD b), .un] _ T).map _ = _
    rw [h1, mR_zip]
    simp
  refine ⟨T1 ++ [some (.lst (((mR a b).map D.str).map HV.pu))], Ok.eq ?_⟩
  show Ok ((F_merged_entries ⟨[.val .N (rwD a), .val .N (rwD b), .un], T⟩).bind _) _
  unfold F_merged_entries
  simp [h2, tup_pus, -List.map_map]
  rfl
end Lw
namespace Lw
open PySem L2 Vf
/-! merged and fits -/
theorem zFor_go {fi : FI} {s : TD → Ev → Option Ev} {A : SX} {env : Ev} {items : List TD} (h : fi env = some items) : zFor fi s A env = forZ A s items env := by
  rw [zFor_eq, h]
  rfl
theorem zif_t {c : FXT} {A B : SX} {env : Ev} {Q : OutX → Prop} {T : Tb} (hc : c env = some (.val true T)) (h : Ok (A ⟨env.s, T⟩) Q) : Ok (zIf c A B env) Q := by
  rw [zIf_eq, hc]
  exact h
theorem zif_f {c : FXT} {A B : SX} {env : Ev} {Q : OutX → Prop} {T : Tb} (hc : c env = some (.val false T)) (h : Ok (B ⟨env.s, T⟩) Q) : Ok (zIf c A B env) Q := by
  rw [zIf_eq, hc]
  exact h
theorem sx_if {c : FXT} {A B : SX} {env : Ev} {Q : OutX → Prop} {b : Bool} (hc : c env = some (.val b env.t)) (ht : b = true → ∃ x T, A env = some (.rt x T) ∧ Q (.rt x T)) (hf : b = false → Ok (B env) Q) : Ok (zSeq (zIf c A zNx) B env) Q := by
  obtain ⟨l, T⟩ := env
  rw [zSeq_eq, zIf_eq, hc]
  show Ok ((if b then A ⟨l, T⟩ else zNx ⟨l, T⟩).bind (zThen B)) Q
  cases b with
  | true =>
    obtain ⟨x, T', h1, h2⟩ := ht rfl
    rw [if_pos rfl, h1]
    exact ⟨_, rfl, h2⟩
  | false =>
    exact hf rfl
theorem zq_mid {A B : SX} {env : Ev} {Q : OutX → Prop} (P : Ev → Prop) (h : Ok (A env) fun o => match o with | .nx e => P e | .rt x T => Q (.rt x T) | _ => False) (hB : ∀ e, P e → Ok (B e) Q) : Ok (zSeq A B env) Q := by
  obtain ⟨o, h1, h2⟩ := h
  rw [zSeq_eq, h1]
  cases o with
  | nx e => exact hB e h2
  | rt x T => exact ⟨_, rfl, h2⟩
  | _ => exact h2.elim
theorem xLcF_at {fi : FI} {s : TD → Ev → Option Ev} {ct : FXT} {fe : FX} {vs : List Nat} {l : List Sl} {T : Tb} {items : List TD} {out : List HV} {T2 : Tb} (hfree : ownFree l = true) (hi : fi ⟨l, T⟩ = some items) (hl : items.length ≤ lim)
    (hc : lcF ct fe s (wipeE ⟨l, T⟩ vs).s items T = some (out, T2)) : xLcF fi s ct fe vs ⟨l, T⟩ = some (.val (.ob T2.length) (T2 ++ [some (.lst out)])) := by
  unfold xLcF
  rw [if_pos hfree, hi]
  show (if items.length ≤ lim then _ else none) = _
  rw [if_pos hl]
  show (lcF ct fe s (wipeE ⟨l, T⟩ vs).s items T).map _ = _
  rw [hc]
  rfl
theorem notT_at {f : FX} {env : Ev} {b : Bool} {T' : Tb} (h : f env = some (.val (.pu (.bl b)) T')) : (xNotT (xTru f)) env = some (.val (!b) T') := Ok.eq (by simp [h])
def Frz (x : D) (s : St) : Prop := g_frozen [(.N, x)] = some (.N, stD s)
theorem merged_at {x y : D} {a b : St} (ha : StOk a) (hx : Frz x a) (hy : Frz y b) (T : Tb) : ∃ T', g_merged [.pu x, .pu y] T = some (.val (.pu (stD (mS a b))) T') := by
  unfold g_merged
  rw [gFX_at (by rfl)]
  have hz : (sZipS (sCall g_frozen (sCons (sVar 0) sNil)) (sCall g_frozen (sCons (sVar 1) sNil))) ⟨[.val .N x, .val .N y, .un], T⟩ = some ([(a.sl, b.sl), (a.sk, b.sk)].map fun p : List Str × List Str => (Tg.N, D.tup [rwD p.1, rwD p.2])) := by
    refine Ok.eq ?_
    unfold sZipS
    have e1 : (sCall g_frozen (sCons (sVar 0) sNil)) ⟨[.val .N x, .val .N y, .un], T⟩ = some (.N, stD a) := Ok.eq (by simp [show g_frozen [(.N, x)] = some (.N, stD a) from hx])
    have e2 : (sCall g_frozen (sCons (sVar 1) sNil)) ⟨[.val .N x, .val .N y, .un], T⟩ = some (.N, stD b) := Ok.eq (by simp [show g_frozen [(.N, y)] = some (.N, stD b) from hy])
    rw [e1, e2]
    exact ⟨_, rfl, rfl⟩
  obtain ⟨T1, h1⟩ := lcF_pu (fe := xCall g_merged_entries (xStar (xE (sVar 2)))) (s := setV 2) (sl := [.val .N x, .val .N y, .un]) (f := fun p : List Str × List Str => D.tup [rwD p.1, rwD p.2]) (h := fun p => rwD (mR p.1 p.2)) [(a.sl, b.sl), (a.sk, b.sk)] T fun p hp T => by
    have n : p.1.length ≤ 17 := by
      simp only [List.mem_cons, List.not_mem_nil, or_false] at hp
      rcases hp with rfl | rfl
      · exact ha.nl
      · exact ha.nk
    obtain ⟨T', q⟩ := mRow_at (a := p.1) (b := p.2) n T
    refine ⟨⟨[.val .N x, .val .N y, .val .N (.tup [rwD p.1, rwD p.2])], T⟩, T', rfl, rfl, ?_⟩
    have e : xStar (xE (sVar 2)) ⟨[.val .N x, .val .N y, .val .N (.tup [rwD p.1, rwD p.2])], T⟩ = some (.val [.pu (rwD p.1), .pu (rwD p.2)] T) := rfl
    rw [xCall_eq, e]
    exact q
  have h2 : xLcF (sZipS (sCall g_frozen (sCons (sVar 0) sNil)) (sCall g_frozen (sCons (sVar 1) sNil))) (setV 2) xYes (xCall g_merged_entries (xStar (xE (sVar 2)))) [2] ⟨[.val .N x, .val .N y, .un], T⟩ = some (.val (.ob T1.length) (T1 ++ [some (.lst ([rwD (mR a.sl b.sl), rwD (mR a.sk b.sk)].map HV.pu))])) := by
    refine xLcF_at (by rfl) hz (by exact l2) ?_
    exact h1
  generalize hd : [rwD (mR a.sl b.sl), rwD (mR a.sk b.sk)] = ds at h2
  refine ⟨T1 ++ [some (.lst (ds.map HV.pu))], Ok.eq ?_⟩
  show Ok ((F_merged ⟨[.val .N x, .val .N y, .un], T⟩).bind _) _
  unfold F_merged
  simp [h2, tup_pus]
  rw [← hd]
  rfl
/-! fits -/
theorem fits_row {x y : D} {m w : List Str} {s4 : Sl} (hm : m.length ≤ 17) (hf4 : ownFree [s4] = true) (T : Tb) : Ok (B_fits_1 ⟨[.val .N x, .val .N y, .val .N (rwD m), .val .N (rwD w), s4], T⟩) fun o =>
    if (decide (m.length = w.length) && fR m w) = true then (∃ T', o = .nx ⟨[.val .N x, .val .N y, .val .N (rwD m), .val .N (rwD w), s4], T'⟩) else ∃ T', o = .rt (.pu (.bl false)) T' := by
  unfold B_fits_1
  by_cases hl : m.length = w.length
  case neg =>
    refine sx_if (b := true) (Ok.eq ?_) (fun _ => ?_) fun h => by cases h
    · simp [rw_len]
      omega
    · refine ⟨_, _, rfl, ?_⟩
      rw [if_neg (by simp [hl])]
      exact ⟨_, rfl⟩
  refine sx_if (b := false) (Ok.eq (by simp [rw_len, hl])) (fun h => by cases h) fun _ => ?_
  have hz : (sZipS (sVar 2) (sVar 3)) ⟨[.val .N x, .val .N y, .val .N (rwD m), .val .N (rwD w), s4], T⟩ = some ((m.zip w).map fun p => (Tg.N, D.tup [.str p.1, .str p.2])) := by
    rw [← zp_strs]
    rfl
  have hl2 : ((m.zip w).map fun p => (Tg.N, D.tup [.str p.1, .str p.2])).length ≤ lim := by
    rw [List.length_map, List.length_zip]
    exact Nat.le_trans (Nat.min_le_left _ _) (Nat.le_trans hm (by decide))
  obtain ⟨T1, h1⟩ := lcF_pu (fe := xCall g_fits_entry (xStar (xE (sVar 4)))) (s := setV 4) (sl := [.val .N x, .val .N y, .val .N (rwD m), .val .N (rwD w), .un]) (f := fun p : Str × Str => D.tup [.str p.1, .str p.2]) (h := fun p => D.bl (fE p.1 p.2)) (m.zip w) T fun p hp T => by
    refine ⟨⟨[.val .N x, .val .N y, .val .N (rwD m), .val .N (rwD w), .val .N (.tup [.str p.1, .str p.2])], T⟩, T, rfl, rfl, ?_⟩
    have e : xStar (xE (sVar 4)) ⟨[.val .N x, .val .N y, .val .N (rwD m), .val .N (rwD w), .val .N (.tup [.str p.1, .str p.2])], T⟩ = some (.val [.pu (.str p.1), .pu (.str p.2)] T) := rfl
    rw [xCall_eq, e]
    exact fe_at p.1 p.2 T
  have hz2 : (m.zip w).map (fun p => HV.pu (D.bl (fE p.1 p.2))) = ((List.zipWith fE m w).map D.bl).map HV.pu := by
    rw [List.zip_eq_zipWith, List.map_zipWith, List.map_zipWith, List.map_zipWith]
  have h2 : xLcF (sZipS (sVar 2) (sVar 3)) (setV 4) xYes (xCall g_fits_entry (xStar (xE (sVar 4)))) [4] ⟨[.val .N x, .val .N y, .val .N (rwD m), .val .N (rwD w), s4], T⟩ = some (.val (.ob T1.length) (T1 ++ [some (.lst (((List.zipWith fE m w).map D.bl).map HV.pu))])) := by
    rw [← hz2]
    exact xLcF_at (by simpa [ownFree] using hf4) hz hl2 h1
  have h3 : xB allB (xCons (xLcF (sZipS (sVar 2) (sVar 3)) (setV 4) xYes (xCall g_fits_entry (xStar (xE (sVar 4)))) [4]) xNil) ⟨[.val .N x, .val .N y, .val .N (rwD m), .val .N (rwD w), s4], T⟩ = some (.val (.pu (.bl (fR m w))) (T1 ++ [some (.lst (((List.zipWith fE m w).map D.bl).map HV.pu))])) := by
    refine Ok.eq ?_
    generalize hE : List.zipWith fE m w = bs at *
    have e4 : fR m w = bs.all id := by unfold fR; rw [hE]
    generalize hq : ((bs.map D.bl)) = ds at h2
    simp [h2, bK, td_lst]
    rw [← hq]
    simp [allB_at, e4]
  cases hr : fR m w with
  | true =>
    rw [hr] at h3
    refine zif_f (notT_at h3) ?_
    refine ⟨_, rfl, ?_⟩
    dsimp only
    rw [if_pos (by simp [hl])]
    exact ⟨_, rfl⟩
  | false =>
    rw [hr] at h3
    refine zif_t (notT_at h3) ?_
    refine ⟨_, rfl, ?_⟩
    dsimp only
    rw [if_neg (by simp)]
    exact ⟨_, rfl⟩
def fP (a b : St) (k : Nat) : Bool := decide ((a.pt k).length = (b.pt k).length) && fR (a.pt k) (b.pt k)
theorem fS_fP (a b : St) : fS a b = (fP a b 0 && fP a b 1) := by
  show (decide (a.sl.length = b.sl.length) && decide (a.sk.length = b.sk.length) && fR a.sl b.sl && fR a.sk b.sk) = ((decide (a.sl.length = b.sl.length) && fR a.sl b.sl) && (decide (a.sk.length = b.sk.length) && fR a.sk b.sk))
  cases decide (a.sl.length = b.sl.length) <;> cases decide (a.sk.length = b.sk.length) <;> cases fR a.sl b.sl <;> cases fR a.sk b.sk <;> rfl
theorem fits_at {x y : D} {a b : St} (ha : StOk a) (hx : Frz x a) (hy : Frz y b) (T : Tb) : ∃ T', g_fits [.pu x, .pu y] T = some (.val (.pu (.bl (fS a b))) T') := by
  suffices h : Ok (g_fits [.pu x, .pu y] T) fun r => ∃ T', r = .val (.pu (.bl (fS a b))) T' by
    obtain ⟨r, h1, T', rfl⟩ := h
    exact ⟨T', h1⟩
  unfold g_fits
  rw [gFX_at (by rfl), Ok_bind]
  show Ok (F_fits ⟨[.val .N x, .val .N y, .un, .un, .un], T⟩) _
  unfold F_fits
  have hz : (sZip (sCall g_frozen (sCons (sVar 0) sNil)) (sCall g_frozen (sCons (sVar 1) sNil))) ⟨[.val .N x, .val .N y, .un, .un, .un], T⟩ = some [(Tg.N, D.tup [rwD a.sl, rwD b.sl]), (Tg.N, D.tup [rwD a.sk, rwD b.sk])] := by
    refine Ok.eq ?_
    unfold sZip
    have e1 : (sCall g_frozen (sCons (sVar 0) sNil)) ⟨[.val .N x, .val .N y, .un, .un, .un], T⟩ = some (.N, stD a) := Ok.eq (by simp [show g_frozen [(.N, x)] = some (.N, stD a) from hx])
    have e2 : (sCall g_frozen (sCons (sVar 1) sNil)) ⟨[.val .N x, .val .N y, .un, .un, .un], T⟩ = some (.N, stD b) := Ok.eq (by simp [show g_frozen [(.N, y)] = some (.N, stD b) from hy])
    rw [e1, e2]
    exact ⟨_, rfl, rfl⟩
  refine zq_mid (fun e => (∀ j, j < 2 → fP a b j = true) ∧ ∃ l T', e = ⟨l, T'⟩) ?_ ?_
  · rw [zFor_go hz]
    refine forZ_ok (fun k e => (∀ j, j < k → fP a b j = true) ∧ ∃ s2 s3 T', e = ⟨[.val .N x, .val .N y, s2, s3, .un], T'⟩) ⟨fun j hj => by omega, _, _, _, rfl⟩ ?_ ?_
    · rintro k r env hk ⟨hK, s2, s3, T', rfl⟩
      have hk2 : k < 2 ∧ r = (Tg.N, D.tup [rwD (a.pt k), rwD (b.pt k)]) := by
        match k, hk with
        | 0, hk => cases hk; exact ⟨by omega, rfl⟩
        | 1, hk => cases hk; exact ⟨by omega, rfl⟩
        | n + 2, hk => simp at hk
      obtain ⟨hk1, rfl⟩ := hk2
      refine ⟨⟨[.val .N x, .val .N y, .val .N (rwD (a.pt k)), .val .N (rwD (b.pt k)), .un], T'⟩, rfl, ?_⟩
      obtain ⟨o, h1, h2⟩ := fits_row (x := x) (y := y) (m := a.pt k) (w := b.pt k) (s4 := .un) (pt_len ha k) rfl T'
      refine ⟨o, h1, ?_⟩
      have hp : fP a b k = (decide ((a.pt k).length = (b.pt k).length) && fR (a.pt k) (b.pt k)) := rfl
      rw [← hp] at h2
      cases hq : fP a b k with
      | true =>
        rw [hq, if_pos rfl] at h2
        obtain ⟨T2, rfl⟩ := h2
        refine ⟨fun j hj => ?_, _, _, _, rfl⟩
        rcases Nat.lt_succ_iff_lt_or_eq.mp hj with q | rfl
        · exact hK j q
        · exact hq
      | false =>
        rw [hq, if_neg (by simp)] at h2
        obtain ⟨T2, rfl⟩ := h2
        have hf : fS a b = false := by
          rw [fS_fP]
          match k, hk1, hq with
          | 0, _, hq => rw [hq]; rfl
          | 1, _, hq => rw [hq]; cases fP a b 0 <;> rfl
        rw [hf]
        exact ⟨_, rfl, _, rfl⟩
    · rintro env ⟨hK, s2, s3, T', rfl⟩
      exact ⟨hK, _, _, rfl⟩
  · rintro e ⟨hK, l, T', rfl⟩
    have hf : fS a b = true := by
      rw [fS_fP, hK 0 (by omega), hK 1 (by omega)]
      rfl
    rw [hf]
    refine ⟨_, rfl, ?_⟩
    exact ⟨_, rfl, _, rfl⟩
end Lw
namespace Lw
open PySem L2 Vf
/-! two states asked -/
theorem sok_u : PyData.strOk "unset" = true := by decide +kernel
theorem sok_m : PyData.strOk "mixed" = true := by decide +kernel
theorem mE_ok {x y : Str} (h : PyData.strOk x = true) : PyData.strOk (mE x y) = true := by
  unfold mE
  split
  · exact h
  · split
    · exact sok_u
    · exact sok_m
theorem mR_ok {a b : List Str} (h : ∀ z ∈ a, PyData.strOk z = true) : ∀ z ∈ mR a b, PyData.strOk z = true := fun z hz => by
  rw [mR_zip] at hz
  obtain ⟨p, hp, rfl⟩ := List.mem_map.mp hz
  exact mE_ok (h _ (List.of_mem_zip hp).1)
theorem mS_ok {a b : St} (h : StOk a) : StOk (mS a b) := by
  have e : ∀ x y : List Str, x.length ≤ 17 → (mR x y).length ≤ 17 := fun x y h => by
    unfold mR
    rw [List.length_zipWith]
    exact Nat.le_trans (Nat.min_le_left _ _) h
  exact ⟨e _ _ h.nl, e _ _ h.nk, mR_ok h.ol, mR_ok h.ok⟩
theorem frz_sh {s : St} (h : StOk s) (f : Nat) : Frz (shD s f) s := frozen_sh h f
theorem pair_at {a b : St} (ha : StOk a) (hb : StOk b) {f : Nat} (hf : f < 3) (T : Tb) : ∃ T', g_law_pair_asked [.pu (stD a), .pu (stD b), .pu (.int (f : Int))] T = some (.val (.pu (.bl true)) T') := by
  suffices h : Ok (g_law_pair_asked [.pu (stD a), .pu (stD b), .pu (.int (f : Int))] T) fun r => ∃ T', r = .val (.pu (.bl true)) T' by
    obtain ⟨r, h1, T', rfl⟩ := h
    exact ⟨T', h1⟩
  obtain ⟨g, hg, hg9⟩ : ∃ g : Nat, g < 3 ∧ ((f : Int) + 1) % 3 = (g : Int) := ⟨(f + 1) % 3, by omega, by omega⟩
  have q1 := shown_at ha hf
  have q2 := shown_at hb hg
  have fz1 := frz_sh ha f
  have fz2 := frz_sh hb g
  have o1 := eq_sh ha f
  have o2 := eq_sh hb g
  unfold g_law_pair_asked
  rw [gFX_at (by rfl), Ok_bind]
  show Ok (F_law_pair_asked ⟨[.val .N (stD a), .val .N (stD b), .val .N (.int (f : Int)), .un, .un, .un, .un], T⟩) _
  unfold F_law_pair_asked
  refine seq_step (P := fun o => o = .nx ⟨[.val .N (stD a), .val .N (stD b), .val .N (.int (f : Int)), .val .N (shD a f), .un, .un, .un], T⟩) (by simp [q1]) ?_
  rintro o rfl
  refine ⟨_, rfl, ?_⟩
  refine seq_step (P := fun o => o = .nx ⟨[.val .N (stD a), .val .N (stD b), .val .N (.int (f : Int)), .val .N (shD a f), .val .N (shD b g), .un, .un], T⟩) (by simp [hg9, q2]) ?_
  rintro o rfl
  refine ⟨_, rfl, ?_⟩
  generalize shD a f = x1 at *
  generalize shD b g = x2 at *
  refine zq_mid (fun e => ∃ s5 T', e = ⟨[.val .N (stD a), .val .N (stD b), .val .N (.int (f : Int)), .val .N x1, .val .N x2, s5, .un], T'⟩) ?_ ?_
  · by_cases hl : a.sl.length = b.sl.length ∧ a.sk.length = b.sk.length
    case neg =>
      refine zif_f (T := T) (Ok.eq ?_) ⟨_, rfl, _, _, rfl⟩
      simp [st0, st1, rw_len]
      omega
    obtain ⟨l1, l2⟩ := hl
    refine zif_t (T := T) (Ok.eq (by simp [st0, st1, rw_len, l1, l2])) ?_
    obtain ⟨T1, m1⟩ := merged_at (y := x2) (b := b) ha fz1 fz2 T
    refine seq_step (P := fun o => o = .nx ⟨[.val .N (stD a), .val .N (stD b), .val .N (.int (f : Int)), .val .N x1, .val .N x2, .val .N (stD (mS a b)), .un], T1⟩) (by simp [m1]) ?_
    rintro o rfl
    refine ⟨_, rfl, ?_⟩
    refine zq_mid (fun e => ∃ T', e = ⟨[.val .N (stD a), .val .N (stD b), .val .N (.int (f : Int)), .val .N x1, .val .N x2, .val .N (stD (mS a b)), .un], T'⟩) ?_ ?_
    · by_cases h2 : f = 2
      · refine zif_t (T := T1) (Ok.eq (by simp [h2])) ?_
        obtain ⟨T2, m2⟩ := merged_at (y := x2) (b := b) ha fz1 fz2 T1
        simp [m2, xCallK, permH]
      · refine zif_f (T := T1) (Ok.eq ?_) ⟨_, rfl, _, rfl⟩
        simp
        omega
    rintro e ⟨T2, rfl⟩
    refine zif_f (T := T2) (Ok.eq ?_) ⟨_, rfl, _, _, rfl⟩
    simp [lmS_at ha l1 l2, same_at (mS_ok ha)]
  rintro e ⟨s5, T3, rfl⟩
  obtain ⟨T4, m4⟩ := fits_at (y := x2) (b := b) ha fz1 fz2 T3
  refine seq_step (P := fun o => o = .nx ⟨[.val .N (stD a), .val .N (stD b), .val .N (.int (f : Int)), .val .N x1, .val .N x2, s5, .val .N (.bl (fS a b))], T4⟩) (by simp [m4]) ?_
  rintro o rfl
  refine ⟨_, rfl, ?_⟩
  refine zq_mid (fun e => ∃ T', e = ⟨[.val .N (stD a), .val .N (stD b), .val .N (.int (f : Int)), .val .N x1, .val .N x2, s5, .val .N (.bl (fS a b))], T'⟩) ?_ ?_
  · by_cases h2 : f = 2
    · refine zif_t (T := T4) (Ok.eq (by simp [h2])) ?_
      obtain ⟨T2, m2⟩ := fits_at (y := x2) (b := b) ha fz1 fz2 T4
      simp [m2, xCallK, permH]
    · refine zif_f (T := T4) (Ok.eq ?_) ⟨_, rfl, _, rfl⟩
      simp
      omega
  rintro e ⟨T5, rfl⟩
  refine sx_if (b := false) (Ok.eq ?_) (fun h => by cases h) fun _ => ?_
  · simp [lfS_at ha hb]
  · simp [q1, hg9, q2, o1, o2]
end Lw
namespace Lw
open PySem L2 Vf
/-! a drawn state -/
structure KindsOk (ks : List Str) : Prop where
  len : ks.length = 6
  ok : ∀ z ∈ ks, PyData.strOk z = true
theorem kind6 {ks : List Str} (h : KindsOk ks) (i : Int) : ∃ z, oIx (.N, lsD ks) (.N, .int (i % 6)) = some (.N, .str z) ∧ PyData.strOk z = true := by
  obtain ⟨n, hn, e⟩ : ∃ n : Nat, n < 6 ∧ i % 6 = (n : Int) := ⟨(i % 6).toNat, by omega, by omega⟩
  have hl := h.len
  refine ⟨ks[n]'(by omega), ?_, h.ok _ (List.getElem_mem _)⟩
  have h2 : atI (ks.map D.str) (n : Int) = some (.str (ks[n]'(by omega))) := atI_nat (by rw [List.getElem?_map, List.getElem?_eq_getElem (by omega)]; rfl)
  rw [e]
  refine Ok.eq ?_
  simp [lsD, h2]
theorem kind7 {ks : List Str} (h : KindsOk ks) (i : Int) : ∃ r z, oAdd (.N, lsD ks) (.N, .lst [.str "unset"]) = some r ∧ oIx r (.N, .int (i % 7)) = some (.N, .str z) ∧ PyData.strOk z = true := by
  obtain ⟨n, hn, e⟩ : ∃ n : Nat, n < 7 ∧ i % 7 = (n : Int) := ⟨(i % 7).toNat, by omega, by omega⟩
  have hl := h.len
  have hl2 : (ks ++ [("unset" : Str)]).length = 7 := by simp [hl]
  obtain ⟨z, hz⟩ : ∃ z, (ks ++ [("unset" : Str)])[n]? = some z := ⟨_, List.getElem?_eq_getElem (by omega)⟩
  have h2 : atI ((ks ++ [("unset" : Str)]).map D.str) (n : Int) = some (.str z) := atI_nat (by rw [List.getElem?_map, hz]; rfl)
  have h3 : oAdd (.N, lsD ks) (.N, .lst [.str "unset"]) = some (.N, .lst ((ks ++ [("unset" : Str)]).map D.str)) := by
    refine Ok.eq ?_
    have : 7 ≤ lim := by decide
    simp [lsD, hl, this]
  refine ⟨_, z, h3, ?_, ?_⟩
  · rw [e]
    refine Ok.eq ?_
    generalize (ks ++ [("unset" : Str)]).map D.str = zs at h2
    simp [h2]
  · rcases List.mem_append.mp (List.mem_of_getElem? hz) with q | q
    · exact h.ok _ q
    · rw [List.mem_singleton.mp q]
      exact sok_u
/-- four numbers in a list -/
def Row4 (R : D) : Prop := ∀ i : Nat, i < 4 → ∃ z : Int, oIx (.N, R) (.N, .int (i : Int)) = some (.N, .int z) ∧ 0 ≤ z ∧ z < 4611686018427387904
theorem state_of_at {ks : List Str} (hk : KindsOk ks) {m h : Nat} (hm : m ≤ 16) (hh : h ≤ 16) {R : D} (hR : Row4 R) : Ok (g_law_state_of [(.N, lsD ks), (.N, .int (m : Int)), (.N, .int (h : Int)), (.N, R)]) fun r => ∃ s, r = (.N, stD s) ∧ StOk s ∧ s.sl.length = m ∧ s.sk.length = h := by
  have ll : 16 ≤ lim := by decide
  unfold g_law_state_of
  rw [gF_at (by rfl) (by rfl), Ok_bind]
  show Ok (F_law_state_of ⟨[.val .N (lsD ks), .val .N (.int (m : Int)), .val .N (.int (h : Int)), .val .N R, .own [], .own [], .un, .un, .un], []⟩) _
  unfold F_law_state_of
  refine sq_step (P := fun o => o = .nx ⟨[.val .N (lsD ks), .val .N (.int (m : Int)), .val .N (.int (h : Int)), .val .N R, .own [], .own [], .un, .un, .un], []⟩) (by simp) ?_
  rintro o rfl
  refine ⟨_, rfl, ?_⟩
  refine sq_step (P := fun o => o = .nx ⟨[.val .N (lsD ks), .val .N (.int (m : Int)), .val .N (.int (h : Int)), .val .N R, .own [], .own [], .un, .un, .un], []⟩) (by simp) ?_
  rintro o rfl
  refine ⟨_, rfl, ?_⟩
  refine sq_mid (fun e => ∃ (zs : List Str) (s6 s7 s8 : Sl), e = ⟨[.val .N (lsD ks), .val .N (.int (m : Int)), .val .N (.int (h : Int)), .val .N R, .own (zs.map D.str), .own [], s6, s7, s8], []⟩ ∧ zs.length = m ∧ ∀ z ∈ zs, PyData.strOk z = true) ?_ ?_
  · have hfi : (sR1 (sVar 1)) ⟨[.val .N (lsD ks), .val .N (.int (m : Int)), .val .N (.int (h : Int)), .val .N R, .own [], .own [], .un, .un, .un], []⟩ = some (iRng m 0) := by
      refine Ok.eq ?_
      simp
      omega
    rw [sFor_at hfi]
    refine forL_ok (fun k e => ∃ (zs : List Str) (s6 s7 s8 : Sl), e = ⟨[.val .N (lsD ks), .val .N (.int (m : Int)), .val .N (.int (h : Int)), .val .N R, .own (zs.map D.str), .own [], s6, s7, s8], []⟩ ∧ zs.length = k ∧ ∀ z ∈ zs, PyData.strOk z = true) ⟨[], _, _, _, rfl, rfl, by simp⟩ ?_ ?_
    · rintro k r env hk1 ⟨zs, s6, s7, s8, rfl, hz1, hz2⟩
      obtain ⟨hk2, rfl⟩ := iRng_get hk1
      refine ⟨⟨[.val .N (lsD ks), .val .N (.int (m : Int)), .val .N (.int (h : Int)), .val .N R, .own (zs.map D.str), .own [], .val .N (.int (k : Int)), s7, s8], []⟩, by simp, ?_⟩
      show Ok (B_law_state_of_1 _) _
      unfold B_law_state_of_1
      obtain ⟨n, hn, hk8⟩ : ∃ n : Nat, n < 2 ∧ (k : Int) / 8 = (n : Int) := ⟨k / 8, by omega, by omega⟩
      obtain ⟨c, hc, c0, c1⟩ := hR n (by omega)
      refine sq_step (P := fun o => o = .nx ⟨[.val .N (lsD ks), .val .N (.int (m : Int)), .val .N (.int (h : Int)), .val .N R, .own (zs.map D.str), .own [], .val .N (.int (k : Int)), .val .N (.int c), s8], []⟩) ?_ ?_
      · simp [hk8, hc]
      rintro o rfl
      refine ⟨_, rfl, ?_⟩
      refine sq_mid (fun e => ∃ c s8, e = ⟨[.val .N (lsD ks), .val .N (.int (m : Int)), .val .N (.int (h : Int)), .val .N R, .own (zs.map D.str), .own [], .val .N (.int (k : Int)), .val .N (.int c), s8], []⟩) ?_ ?_
      · obtain ⟨j0, hj0, ej0⟩ : ∃ j0 : Nat, j0 < 8 ∧ (k : Int) % 8 = (j0 : Int) := ⟨k % 8, by omega, by omega⟩
        have hfi2 : (sR1 (sOp oMod (sB intB (sCons (sVar 6) sNil)) (sLit (.int 8)))) ⟨[.val .N (lsD ks), .val .N (.int (m : Int)), .val .N (.int (h : Int)), .val .N R, .own (zs.map D.str), .own [], .val .N (.int (k : Int)), .val .N (.int c), s8], []⟩ = some (iRng j0 0) := by
          refine Ok.eq ?_
          simp [ej0]
          omega
        rw [sFor_at hfi2]
        refine forL_ok (fun _ e => ∃ c s8, e = ⟨[.val .N (lsD ks), .val .N (.int (m : Int)), .val .N (.int (h : Int)), .val .N R, .own (zs.map D.str), .own [], .val .N (.int (k : Int)), .val .N (.int c), s8], []⟩) ⟨_, _, rfl⟩ ?_ ?_
        · rintro j r env hj ⟨c, s8, rfl⟩
          obtain ⟨hj2, rfl⟩ := iRng_get hj
          refine ⟨⟨[.val .N (lsD ks), .val .N (.int (m : Int)), .val .N (.int (h : Int)), .val .N R, .own (zs.map D.str), .own [], .val .N (.int (k : Int)), .val .N (.int c), .val .N (.int (j : Int))], []⟩, by simp, ?_⟩
          show Ok (B_law_state_of_2 _) _
          unfold B_law_state_of_2
          simp
        · rintro env ⟨c, s8, rfl⟩
          exact ⟨_, _, rfl⟩
      rintro e ⟨c, s8, rfl⟩
      obtain ⟨q, z, hq, hz, hz9⟩ := kind7 hk c
      have l1 : 1 ≤ lim := by decide
      have l17 : zs.length ≤ lim := by unfold lim; omega
      simp [l1, hq, hz, l17]
      refine ⟨zs ++ [z], by simp, by simp [hz1], fun y hy => ?_⟩
      rcases List.mem_append.mp hy with q | q
      · exact hz2 y q
      · rw [List.mem_singleton.mp q]
        exact hz9
    · rintro env ⟨zs, s6, s7, s8, rfl, hz1, hz2⟩
      exact ⟨zs, _, _, _, rfl, by simpa [iRng] using hz1, hz2⟩
  rintro e ⟨zs, s6, s7, s8, rfl, hz1, hz2⟩
  refine sq_mid (fun e => ∃ (zs ys : List Str) (s6 s7 s8 : Sl), e = ⟨[.val .N (lsD ks), .val .N (.int (m : Int)), .val .N (.int (h : Int)), .val .N R, .own (zs.map D.str), .own (ys.map D.str), s6, s7, s8], []⟩ ∧ (zs.length = m ∧ ∀ z ∈ zs, PyData.strOk z = true) ∧ ys.length = h ∧ ∀ z ∈ ys, PyData.strOk z = true) ?_ ?_
  · have hfi : (sR1 (sVar 2)) ⟨[.val .N (lsD ks), .val .N (.int (m : Int)), .val .N (.int (h : Int)), .val .N R, .own (zs.map D.str), .own [], s6, s7, s8], []⟩ = some (iRng h 0) := by
      refine Ok.eq ?_
      simp
      omega
    rw [sFor_at hfi]
    refine forL_ok (fun k e => ∃ (ys : List Str) (s6 s7 s8 : Sl), e = ⟨[.val .N (lsD ks), .val .N (.int (m : Int)), .val .N (.int (h : Int)), .val .N R, .own (zs.map D.str), .own (ys.map D.str), s6, s7, s8], []⟩ ∧ ys.length = k ∧ ∀ z ∈ ys, PyData.strOk z = true) ⟨[], _, _, _, rfl, rfl, by simp⟩ ?_ ?_
    · rintro k r env hk1 ⟨ys, s6, s7, s8, rfl, hy1, hy2⟩
      obtain ⟨hk2, rfl⟩ := iRng_get hk1
      refine ⟨⟨[.val .N (lsD ks), .val .N (.int (m : Int)), .val .N (.int (h : Int)), .val .N R, .own (zs.map D.str), .own (ys.map D.str), .val .N (.int (k : Int)), s7, s8], []⟩, by simp, ?_⟩
      show Ok (B_law_state_of_3 _) _
      unfold B_law_state_of_3
      obtain ⟨n, hn, hk8⟩ : ∃ n : Nat, n < 2 ∧ (k : Int) / 8 = (n : Int) := ⟨k / 8, by omega, by omega⟩
      obtain ⟨c, hc, c0, c1⟩ := hR (2 + n) (by omega)
      rw [show ((2 + n : Nat) : Int) = 2 + (n : Int) from by omega] at hc
      refine sq_step (P := fun o => o = .nx ⟨[.val .N (lsD ks), .val .N (.int (m : Int)), .val .N (.int (h : Int)), .val .N R, .own (zs.map D.str), .own (ys.map D.str), .val .N (.int (k : Int)), .val .N (.int c), s8], []⟩) ?_ ?_
      · simp [hk8, hc]
      rintro o rfl
      refine ⟨_, rfl, ?_⟩
      refine sq_mid (fun e => ∃ c s8, e = ⟨[.val .N (lsD ks), .val .N (.int (m : Int)), .val .N (.int (h : Int)), .val .N R, .own (zs.map D.str), .own (ys.map D.str), .val .N (.int (k : Int)), .val .N (.int c), s8], []⟩) ?_ ?_
      · obtain ⟨j0, hj0, ej0⟩ : ∃ j0 : Nat, j0 < 8 ∧ (k : Int) % 8 = (j0 : Int) := ⟨k % 8, by omega, by omega⟩
        have hfi2 : (sR1 (sOp oMod (sB intB (sCons (sVar 6) sNil)) (sLit (.int 8)))) ⟨[.val .N (lsD ks), .val .N (.int (m : Int)), .val .N (.int (h : Int)), .val .N R, .own (zs.map D.str), .own (ys.map D.str), .val .N (.int (k : Int)), .val .N (.int c), s8], []⟩ = some (iRng j0 0) := by
          refine Ok.eq ?_
          simp [ej0]
          omega
        rw [sFor_at hfi2]
        refine forL_ok (fun _ e => ∃ c s8, e = ⟨[.val .N (lsD ks), .val .N (.int (m : Int)), .val .N (.int (h : Int)), .val .N R, .own (zs.map D.str), .own (ys.map D.str), .val .N (.int (k : Int)), .val .N (.int c), s8], []⟩) ⟨_, _, rfl⟩ ?_ ?_
        · rintro j r env hj ⟨c, s8, rfl⟩
          obtain ⟨hj2, rfl⟩ := iRng_get hj
          refine ⟨⟨[.val .N (lsD ks), .val .N (.int (m : Int)), .val .N (.int (h : Int)), .val .N R, .own (zs.map D.str), .own (ys.map D.str), .val .N (.int (k : Int)), .val .N (.int c), .val .N (.int (j : Int))], []⟩, by simp, ?_⟩
          show Ok (B_law_state_of_4 _) _
          unfold B_law_state_of_4
          simp
        · rintro env ⟨c, s8, rfl⟩
          exact ⟨_, _, rfl⟩
      rintro e ⟨c, s8, rfl⟩
      obtain ⟨z, hz, hz9⟩ := kind6 hk c
      have l17 : ys.length ≤ lim := by unfold lim; omega
      simp [hz, l17]
      refine ⟨ys ++ [z], by simp, by simp [hy1], fun y hy => ?_⟩
      rcases List.mem_append.mp hy with q | q
      · exact hy2 y q
      · rw [List.mem_singleton.mp q]
        exact hz9
    · rintro env ⟨ys, s6, s7, s8, rfl, hy1, hy2⟩
      exact ⟨zs, ys, _, _, _, rfl, ⟨hz1, hz2⟩, by simpa [iRng] using hy1, hy2⟩
  rintro e ⟨zs, ys, s6, s7, s8, rfl, ⟨hz1, hz2⟩, hy1, hy2⟩
  have l2 : 2 ≤ lim := by decide
  simp [l2]
  refine ⟨⟨zs, ys⟩, rfl, ⟨by show zs.length ≤ 17; omega, by show ys.length ≤ 17; omega, hz2, hy2⟩, hz1, hy1⟩
end Lw
namespace Lw
open PySem L2 Vf
/-! the drawn states, changed -/
/-- so many numbers in a list -/
def RowN (n : Nat) (R : D) : Prop := ∀ i : Nat, i < n → ∃ z : Int, oIx (.N, R) (.N, .int (i : Int)) = some (.N, .int z) ∧ 0 ≤ z ∧ z < 4611686018427387904
theorem nm_rw {l : List Str} : nm (.N, rwD l) = (.N, rwD l) := rfl
structure RwOk (n : Nat) (l : List Str) : Prop where
  len : l.length = n
  ok : ∀ z ∈ l, PyData.strOk z = true
theorem pt_ok {s : St} (h : StOk s) (k : Nat) : ∀ z ∈ s.pt k, PyData.strOk z = true := by
  unfold St.pt
  split
  · exact h.ol
  · exact h.ok
/-- the states of one size -/
def Like (s t : St) : Prop := StOk t ∧ t.sl.length = s.sl.length ∧ t.sk.length = s.sk.length
theorem like_of {s : St} (h : StOk s) {p q : List Str} (hp : RwOk (s.pt 0).length p) (hq : RwOk (s.pt 1).length q) : Like s ⟨p, q⟩ := by
  have e1 : p.length = s.sl.length := hp.len
  have e2 : q.length = s.sk.length := hq.len
  have := h.nl
  have := h.nk
  exact ⟨⟨by show p.length ≤ 17; omega, by show q.length ≤ 17; omega, hp.ok, hq.ok⟩, e1, e2⟩
theorem two_of {P : Nat → List Str → Prop} {ps : List (List Str)} (h : ps.length = 2) (hp : ∀ j l, ps[j]? = some l → P j l) : ∃ p q, ps = [p, q] ∧ P 0 p ∧ P 1 q := by
  match ps, h with
  | [p, q], _ => exact ⟨p, q, rfl, hp 0 p rfl, hp 1 q rfl⟩
theorem push_P {P : Nat → List Str → Prop} {ps : List (List Str)} {k : Nat} (h : ps.length = k) (hp : ∀ j l, ps[j]? = some l → P j l) {p : List Str} (hq : P k p) : ∀ j l, (ps ++ [p])[j]? = some l → P j l := fun j l e => by
  rcases Nat.lt_trichotomy j k with q | q | q
  · rw [List.getElem?_append_left (by omega)] at e
    exact hp j l e
  · subst q
    rw [← h, List.getElem?_concat_length] at e
    cases e
    exact hq
  · rw [List.getElem?_eq_none (by simp; omega)] at e
    cases e
theorem bits16 {k : Nat} (h : k < 2) : bitsOk 16 (k : Int) = true := by
  match k, h with
  | 0, _ => decide +kernel
  | 1, _ => decide +kernel
theorem all2_ok {α : Type} {rs : List α} {zs : List Str} (h : All2 (fun _ z => PyData.strOk z = true) rs zs) : ∀ z ∈ zs, PyData.strOk z = true := fun z hz => by
  obtain ⟨_, _, q⟩ := h.mem hz
  exact q
theorem mingled_at {a b : St} (ha : StOk a) (hb : StOk b) (h1 : a.sl.length = b.sl.length) (h2 : a.sk.length = b.sk.length) (n16 : a.sl.length ≤ 16) (m16 : a.sk.length ≤ 16) {R : D} (hR : RowN 32 R) :
    Ok (g_law_mingled [(.N, stD a), (.N, stD b), (.N, R)]) fun r => ∃ s, r = (.N, stD s) ∧ Like a s := by
  have hl : ∀ k, (a.pt k).length = (b.pt k).length := fun k => by
    unfold St.pt
    split
    · exact h1
    · exact h2
  have hl16 : ∀ k, (a.pt k).length ≤ 16 := fun k => by
    unfold St.pt
    split
    · exact n16
    · exact m16
  have ll : 16 ≤ lim := by decide
  unfold g_law_mingled
  rw [gF_at (by rfl) (by rfl), Ok_bind]
  show Ok (F_law_mingled ⟨[.val .N (stD a), .val .N (stD b), .val .N R, .un, .un, .un], []⟩) _
  unfold F_law_mingled
  refine sq_step (P := fun o => o = .nx ⟨[.val .N (stD a), .val .N (stD b), .val .N R, .own [], .un, .un], []⟩) (by simp) ?_
  rintro o rfl
  refine ⟨_, rfl, ?_⟩
  refine sq_mid (fun e => ∃ (ps : List (List Str)) (s4 s5 : Sl), e = ⟨[.val .N (stD a), .val .N (stD b), .val .N R, .own (ps.map rwD), s4, s5], []⟩ ∧ ps.length = 2 ∧ ∀ j l, ps[j]? = some l → RwOk (a.pt j).length l) ?_ ?_
  · have hfi : (sR1 (sLit (.int 2))) ⟨[.val .N (stD a), .val .N (stD b), .val .N R, .own [], .un, .un], []⟩ = some (iRng 2 0) := Ok.eq (by simp)
    rw [sFor_at hfi]
    refine forL_ok (fun k e => ∃ (ps : List (List Str)) (s4 s5 : Sl), e = ⟨[.val .N (stD a), .val .N (stD b), .val .N R, .own (ps.map rwD), s4, s5], []⟩ ∧ ps.length = k ∧ ∀ j l, ps[j]? = some l → RwOk (a.pt j).length l) ⟨[], _, _, rfl, rfl, by simp⟩ ?_ ?_
    · rintro k r env hk1 ⟨ps, s4, s5, rfl, hp1, hp2⟩
      obtain ⟨hk2, rfl⟩ := iRng_get hk1
      refine ⟨⟨[.val .N (stD a), .val .N (stD b), .val .N R, .own (ps.map rwD), .val .N (.int (k : Int)), s5], []⟩, by simp, ?_⟩
      show Ok (B_law_mingled_1 _) _
      unfold B_law_mingled_1
      have n1 := hl16 k
      have hb16 := bits16 hk2
      have hlk := hl k
      obtain ⟨zs, hz, hz2⟩ := lcL_mk (fe := (sOp oIx (sL (sLd (sCons (sOp oIx (sOp oIx (sVar 0) (sVar 4)) (sVar 5)) (sCons (sOp oIx (sOp oIx (sVar 1) (sVar 4)) (sVar 5)) sNil)))) (sB intB (sCons (sOp oEq (sOp oIx (sVar 2) (sOp oAdd (sOp oMulX (sLit (.int 16)) (sVar 4)) (sVar 5))) (sLit (.int 0))) sNil))))
        (s := setV 5) (env := ⟨[.val .N (stD a), .val .N (stD b), .val .N R, .own (ps.map rwD), .val .N (.int (k : Int)), .un], []⟩) (rs := iRng (a.pt k).length 0) (fun z : Str => D.str z) (fun _ z => PyData.strOk z = true) fun r hr => by
          obtain ⟨j, hj⟩ := List.mem_iff_getElem?.mp hr
          obtain ⟨hj1, rfl⟩ := iRng_get hj
          obtain ⟨x, hx⟩ : ∃ x, (a.pt k)[j]? = some x := ⟨_, List.getElem?_eq_getElem hj1⟩
          obtain ⟨y, hy⟩ : ∃ y, (b.pt k)[j]? = some y := ⟨_, List.getElem?_eq_getElem (by omega)⟩
          have ox := pt_ok ha k x (List.mem_of_getElem? hx)
          have oy := pt_ok hb k y (List.mem_of_getElem? hy)
          obtain ⟨z, hz, _⟩ := hR (16 * k + j) (by omega)
          rw [show ((16 * k + j : Nat) : Int) = 16 * (k : Int) + (j : Int) from by omega] at hz
          by_cases hd : z = 0
          · simp [st_at hk2, rw_at hx, rw_at hy, hz, hd, l2, at1]
            exact ⟨hb16, oy⟩
          · simp [st_at hk2, rw_at hx, rw_at hy, hz, hd, l2, at0]
            exact ⟨hb16, ox⟩
      have hzl : zs.length = (a.pt k).length := by
        have := hz2.length
        simpa [iRng] using this
      have c1 : ((a.pt k).length : Int) < 4611686018427387904 := by omega
      have c2 : (a.pt k).length ≤ lim := by unfold lim; omega
      have c3 : ps.length ≤ lim := by unfold lim; omega
      have c4 : zs.length ≤ lim := by omega
      simp [st_at hk2, rw_len, c1, c2, hz, tup_ls]
      exact ⟨c3, ps ++ [zs], by simp [rwD], by simp [hp1], push_P (P := fun j l => RwOk (a.pt j).length l) hp1 hp2 ⟨hzl, all2_ok hz2⟩⟩
    · rintro env ⟨ps, s4, s5, rfl, hp1, hp2⟩
      exact ⟨ps, _, _, rfl, hp1, hp2⟩
  rintro e ⟨ps, s4, s5, rfl, hp1, hp2⟩
  obtain ⟨p, q, rfl, hp, hq⟩ := two_of hp1 hp2
  simp [nm_rw, l2, at0, at1]
  exact ⟨⟨p, q⟩, rfl, like_of ha hp hq⟩
end Lw
namespace Lw
open PySem L2 Vf
theorem raised_turn {a : St} {R : D} {ps : List (List Str)} {k : Nat} (hk : k < 2) {zs : List Str} (hz9 : ∀ z ∈ zs, PyData.strOk z = true) {j : Nat} (hj : j < zs.length) {z : Int} (hz : oIx (.N, R) (.N, .int (16 * (k : Int) + (j : Int))) = some (.N, .int z)) {s6 : Sl} :
    Ok (B_law_raised_2 ⟨[.val .N (stD a), .val .N R, .own (ps.map rwD), .val .N (.int (k : Int)), .own (zs.map D.str), .val .N (.int (j : Int)), s6], []⟩) fun o => ∃ (zs' : List Str) (s6 : Sl), o = .nx ⟨[.val .N (stD a), .val .N R, .own (ps.map rwD), .val .N (.int (k : Int)), (.own (zs'.map D.str)), .val .N (.int (j : Int)), s6], []⟩ ∧ zs'.length = zs.length ∧ ∀ z ∈ zs', PyData.strOk z = true := by
  have hb16 := bits16 hk
  obtain ⟨x, hx⟩ : ∃ x, zs[j]? = some x := ⟨_, List.getElem?_eq_getElem hj⟩
  have hx2 : atI (zs.map D.str) (j : Int) = some (.str x) := atI_nat (by rw [List.getElem?_map, hx]; rfl)
  have hix : ixN zs.length (j : Int) = some j := by
    unfold ixN
    rw [if_pos (by omega), if_pos (by omega)]
    simp
  unfold B_law_raised_2
  refine sq_step (P := fun o => o = .nx ⟨[.val .N (stD a), .val .N R, .own (ps.map rwD), .val .N (.int (k : Int)), .own (zs.map D.str), .val .N (.int (j : Int)), .val .N (.int z)], []⟩) (by simp [hb16, hz]) ?_
  rintro o rfl
  refine ⟨_, rfl, ?_⟩
  by_cases h4 : 4 ≤ z
  · by_cases hu : x = "unset"
    · simp [h4, hx2, hu]
      exact ⟨zs, rfl, rfl, hz9⟩
    · have hput : ∀ w : Str, PyData.strOk w = true → ∃ zs' : List Str, (zs.map D.str).set j (.str w) = zs'.map D.str ∧ zs'.length = zs.length ∧ ∀ z ∈ zs', PyData.strOk z = true := fun w hw => ⟨zs.set j w, by rw [List.map_set], by simp, fun y hy => by
        rcases List.mem_or_eq_of_mem_set hy with q | q
        · exact hz9 y q
        · rw [q]; exact hw⟩
      by_cases h5 : z = 5
      · by_cases h6 : k = 0
        · simp [h4, hx2, hu, h5, h6, l2, at1]
          exact ⟨j, hix, hput _ sok_u⟩
        · simp [h4, hx2, hu, h5, h6, l2, at0]
          exact ⟨j, hix, hput _ sok_m⟩
      · simp [h4, hx2, hu, h5, l2, at0]
        exact ⟨j, hix, hput _ sok_m⟩
  · simp [h4]
    exact ⟨zs, rfl, rfl, hz9⟩
theorem raised_at {a : St} (ha : StOk a) (n16 : a.sl.length ≤ 16) (m16 : a.sk.length ≤ 16) {R : D} (hR : RowN 32 R) : Ok (g_law_raised [(.N, stD a), (.N, R)]) fun r => ∃ s, r = (.N, stD s) ∧ Like a s := by
  have hl16 : ∀ k, (a.pt k).length ≤ 16 := fun k => by
    unfold St.pt
    split
    · exact n16
    · exact m16
  unfold g_law_raised
  rw [gF_at (by rfl) (by rfl), Ok_bind]
  show Ok (F_law_raised ⟨[.val .N (stD a), .val .N R, .un, .un, .un, .un, .un], []⟩) _
  unfold F_law_raised
  refine sq_step (P := fun o => o = .nx ⟨[.val .N (stD a), .val .N R, .own [], .un, .un, .un, .un], []⟩) (by simp) ?_
  rintro o rfl
  refine ⟨_, rfl, ?_⟩
  refine sq_mid (fun e => ∃ (ps : List (List Str)) (s3 s4 s5 s6 : Sl), e = ⟨[.val .N (stD a), .val .N R, .own (ps.map rwD), s3, s4, s5, s6], []⟩ ∧ ps.length = 2 ∧ ∀ j l, ps[j]? = some l → RwOk (a.pt j).length l) ?_ ?_
  · have hfi : (sR1 (sLit (.int 2))) ⟨[.val .N (stD a), .val .N R, .own [], .un, .un, .un, .un], []⟩ = some (iRng 2 0) := Ok.eq (by simp)
    rw [sFor_at hfi]
    refine forL_ok (fun k e => ∃ (ps : List (List Str)) (s3 s4 s5 s6 : Sl), e = ⟨[.val .N (stD a), .val .N R, .own (ps.map rwD), s3, s4, s5, s6], []⟩ ∧ ps.length = k ∧ ∀ j l, ps[j]? = some l → RwOk (a.pt j).length l) ⟨[], _, _, _, _, rfl, rfl, by simp⟩ ?_ ?_
    · rintro k r env hk1 ⟨ps, s3, s4, s5, s6, rfl, hp1, hp2⟩
      obtain ⟨hk2, rfl⟩ := iRng_get hk1
      refine ⟨⟨[.val .N (stD a), .val .N R, .own (ps.map rwD), .val .N (.int (k : Int)), s4, s5, s6], []⟩, by simp, ?_⟩
      show Ok (B_law_raised_1 _) _
      unfold B_law_raised_1
      have n1 := hl16 k
      have c2 : (a.pt k).length ≤ lim := by unfold lim; omega
      have c3 : ps.length ≤ lim := by unfold lim; omega
      refine sq_step (P := fun o => o = .nx ⟨[.val .N (stD a), .val .N R, .own (ps.map rwD), .val .N (.int (k : Int)), .own ((a.pt k).map D.str), s5, s6], []⟩) ?_ ?_
      · simp [st_at hk2, lst_rw, c2]
      rintro o rfl
      refine ⟨_, rfl, ?_⟩
      refine sq_mid (fun e => ∃ (zs : List Str) (s5 s6 : Sl), e = ⟨[.val .N (stD a), .val .N R, .own (ps.map rwD), .val .N (.int (k : Int)), .own (zs.map D.str), s5, s6], []⟩ ∧ zs.length = (a.pt k).length ∧ ∀ z ∈ zs, PyData.strOk z = true) ?_ ?_
      · have hfi : (sR1 (sB lenB (sCons (sVar 4) sNil))) ⟨[.val .N (stD a), .val .N R, .own (ps.map rwD), .val .N (.int (k : Int)), .own ((a.pt k).map D.str), s5, s6], []⟩ = some (iRng (a.pt k).length 0) := by
          refine Ok.eq ?_
          simp
          omega
        rw [sFor_at hfi]
        refine forL_ok (fun j e => ∃ (zs : List Str) (s5 s6 : Sl), e = ⟨[.val .N (stD a), .val .N R, .own (ps.map rwD), .val .N (.int (k : Int)), .own (zs.map D.str), s5, s6], []⟩ ∧ zs.length = (a.pt k).length ∧ ∀ z ∈ zs, PyData.strOk z = true) ⟨a.pt k, _, _, rfl, rfl, pt_ok ha k⟩ ?_ ?_
        · rintro j r env hj ⟨zs, s5, s6, rfl, hz1, hz2⟩
          obtain ⟨hj1, rfl⟩ := iRng_get hj
          obtain ⟨z, hz, _⟩ := hR (16 * k + j) (by omega)
          rw [show ((16 * k + j : Nat) : Int) = 16 * (k : Int) + (j : Int) from by omega] at hz
          refine ⟨⟨[.val .N (stD a), .val .N R, .own (ps.map rwD), .val .N (.int (k : Int)), .own (zs.map D.str), .val .N (.int (j : Int)), s6], []⟩, by simp, ?_⟩
          obtain ⟨o, q1, zs', s6', rfl, q2, q3⟩ := raised_turn (a := a) (ps := ps) hk2 hz2 (j := j) (by omega) hz (s6 := s6)
          exact ⟨_, q1, zs', _, s6', rfl, by omega, q3⟩
        · rintro env ⟨zs, s5, s6, rfl, hz1, hz2⟩
          exact ⟨zs, _, _, rfl, hz1, hz2⟩
      rintro e ⟨zs, s5, s6, rfl, hz1, hz2⟩
      simp [c3]
      exact ⟨ps ++ [zs], by simp [rwD], by simp [hp1], push_P (P := fun j l => RwOk (a.pt j).length l) hp1 hp2 ⟨hz1, hz2⟩⟩
    · rintro env ⟨ps, s3, s4, s5, s6, rfl, hp1, hp2⟩
      exact ⟨ps, _, _, _, _, rfl, hp1, hp2⟩
  rintro e ⟨ps, s3, s4, s5, s6, rfl, hp1, hp2⟩
  obtain ⟨p, q, rfl, hp, hq⟩ := two_of hp1 hp2
  simp [nm_rw, l2, at0, at1]
  exact ⟨⟨p, q⟩, rfl, like_of ha hp hq⟩
end Lw
namespace Lw
open PySem L2 Vf
theorem rw_to {l : List Str} {m : Nat} : slD (.N, rwD l) none (some (m : Int)) = some (.N, rwD (l.take m)) := by
  unfold rwD
  rw [slD_tup, cutD_to, List.map_take]
  rfl
theorem rw_from {l : List Str} {m : Nat} : slD (.N, rwD l) (some ((m : Int) + 1)) none = some (.N, rwD (l.drop (m + 1))) := by
  unfold rwD
  rw [slD_tup, show (m : Int) + 1 = ((m + 1 : Nat) : Int) from rfl, cutD_from, List.map_drop]
  rfl
theorem rw_last {l : List Str} : slD (.N, rwD l) none (some ((l.length : Int) - 1)) = some (.N, rwD (l.take (l.length - 1))) := by
  cases l with
  | nil => rfl
  | cons z l =>
    rw [show (((z :: l).length : Nat) : Int) - 1 = ((l.length : Nat) : Int) from by simp, rw_to]
    rfl
theorem rw_add {l q : List Str} (h : l.length + q.length ≤ 100) : oAdd (.N, rwD l) (.N, rwD q) = some (.N, rwD (l ++ q)) := by
  unfold rwD
  rw [oAdd_tup (by simp; exact Nat.le_trans h (by decide)), List.map_append]
  rfl
theorem rw_add1 {l : List Str} {z : Str} (h : l.length + 1 ≤ 100) : oAdd (.N, rwD l) (.N, .tup [.str z]) = some (.N, rwD (l ++ [z])) := rw_add (q := [z]) h
theorem lowered_at {a b : St} (ha : StOk a) (hb : StOk b) (h1 : a.sl.length = b.sl.length) (h2 : a.sk.length = b.sk.length) {k : Nat} (hk : k < 2) (i : Int) :
    Ok (g_law_lowered [(.N, stD a), (.N, stD b), (.N, .int (k : Int)), (.N, .int i)]) fun r => ∃ s, r = (.N, stD s) ∧ Like a s := by
  have hl : (a.pt k).length = (b.pt k).length := by
    unfold St.pt
    split
    · exact h1
    · exact h2
  have n1 := pt_len ha k
  unfold g_law_lowered
  rw [gF_at (by rfl) (by rfl), Ok_bind]
  show Ok (F_law_lowered ⟨[.val .N (stD a), .val .N (stD b), .val .N (.int (k : Int)), .val .N (.int i), .un, .un], []⟩) _
  unfold F_law_lowered
  by_cases h0 : (a.pt k).length = 0
  · refine sq_if (b := true) (Ok.eq (by simp [st_at hk, rw_len, h0])) (fun _ => ⟨(.N, stD a), rfl, ?_⟩) fun h => by cases h
    exact ⟨_, rfl, a, rfl, ha, rfl, rfl⟩
  refine sq_if (b := false) (Ok.eq ?_) (fun h => by cases h) fun _ => ?_
  · simp [st_at hk, rw_len]
    exact fun e => h0 (by rw [e]; rfl)
  obtain ⟨m, hm, em⟩ : ∃ m : Nat, m < (a.pt k).length ∧ i % ((a.pt k).length : Int) = (m : Int) := ⟨(i % ((a.pt k).length : Int)).toNat, by
    have := Int.emod_lt_of_pos i (show (0 : Int) < ((a.pt k).length : Int) by omega)
    have := Int.emod_nonneg i (show ((a.pt k).length : Int) ≠ 0 by omega)
    omega, by
    have := Int.emod_nonneg i (show ((a.pt k).length : Int) ≠ 0 by omega)
    omega⟩
  refine sq_step (P := fun o => o = .nx ⟨[.val .N (stD a), .val .N (stD b), .val .N (.int (k : Int)), .val .N (.int i), .val .N (.int (m : Int)), .un], []⟩) ?_ ?_
  · simp [st_at hk, rw_len, em]
    omega
  rintro o rfl
  refine ⟨_, rfl, ?_⟩
  obtain ⟨y, hy⟩ : ∃ y, (b.pt k)[m]? = some y := ⟨_, List.getElem?_eq_getElem (by omega)⟩
  refine sq_step (P := fun o => o = .nx ⟨[.val .N (stD a), .val .N (stD b), .val .N (.int (k : Int)), .val .N (.int i), .val .N (.int (m : Int)), .val .N (rwD ((a.pt k).take m ++ [y] ++ (a.pt k).drop (m + 1)))], []⟩) ?_ ?_
  · have l1 : 1 ≤ lim := by decide
    have e1 : oAdd (.N, rwD ((a.pt k).take m)) (.N, .tup [.str y]) = some (.N, rwD ((a.pt k).take m ++ [y])) := rw_add1 (by rw [List.length_take]; omega)
    have e2 : oAdd (.N, rwD ((a.pt k).take m ++ [y])) (.N, rwD ((a.pt k).drop (m + 1))) = some (.N, rwD ((a.pt k).take m ++ [y] ++ (a.pt k).drop (m + 1))) := rw_add (by simp; omega)
    simp [st_at hk, rw_at hy, rw_to, rw_from, e1, e2, l1]
  rintro o rfl
  refine ⟨_, rfl, ?_⟩
  have hq : RwOk (a.pt k).length ((a.pt k).take m ++ [y] ++ (a.pt k).drop (m + 1)) := by
    refine ⟨by simp; omega, fun z hz => ?_⟩
    simp only [List.mem_append, List.mem_singleton] at hz
    rcases hz with (q | q) | q
    · exact pt_ok ha k z (List.mem_of_mem_take q)
    · rw [q]; exact pt_ok hb k y (List.mem_of_getElem? hy)
    · exact pt_ok ha k z (List.mem_of_mem_drop q)
  generalize (a.pt k).take m ++ [y] ++ (a.pt k).drop (m + 1) = p at hq
  have p0 : RwOk (a.pt 0).length (a.pt 0) := ⟨rfl, pt_ok ha 0⟩
  have p1 : RwOk (a.pt 1).length (a.pt 1) := ⟨rfl, pt_ok ha 1⟩
  match k, hk, hq with
  | 0, _, hq =>
    simp [st0, st1, l2, at0]
    exact ⟨⟨p, a.sk⟩, rfl, like_of ha hq p1⟩
  | 1, _, hq =>
    simp [st0, st1, l2, at1]
    exact ⟨⟨a.sl, p⟩, rfl, like_of ha p0 hq⟩
theorem sok_n : PyData.strOk "num" = true := by decide +kernel
theorem resized_at {a : St} (ha : StOk a) (n16 : a.sl.length ≤ 16) (m16 : a.sk.length ≤ 16) {i : Int} : Ok (g_law_resized [(.N, stD a), (.N, .int i)]) fun r => ∃ s, r = (.N, stD s) ∧ StOk s := by
  have l1 : 1 ≤ lim := by decide
  have e1 : oAdd (.N, rwD a.sl) (.N, .tup [.str "num"]) = some (.N, rwD (a.sl ++ [("num" : Str)])) := rw_add1 (by omega)
  have e2 : oAdd (.N, rwD a.sk) (.N, .tup [.str "num"]) = some (.N, rwD (a.sk ++ [("num" : Str)])) := rw_add1 (by omega)
  have up : ∀ l : List Str, (∀ z ∈ l, PyData.strOk z = true) → ∀ z ∈ l ++ [("num" : Str)], PyData.strOk z = true := fun l h z hz => by
    rcases List.mem_append.mp hz with q | q
    · exact h z q
    · rw [List.mem_singleton.mp q]; exact sok_n
  unfold g_law_resized
  rw [gF_at (by rfl) (by rfl)]
  by_cases h0 : i = 0
  · simp [F_law_resized, h0, st0, st1, e1, l1, l2]
    exact ⟨⟨a.sl ++ [("num" : Str)], a.sk⟩, rfl, by simp; omega, by have := ha.nk; simpa using this, up _ ha.ol, ha.ok⟩
  by_cases h1 : i = 1
  · simp [F_law_resized, h1, st0, st1, e2, l1, l2]
    exact ⟨⟨a.sl, a.sk ++ [("num" : Str)]⟩, rfl, by have := ha.nl; simpa using this, by simp; omega, ha.ol, up _ ha.ok⟩
  by_cases h2 : i = 2
  · simp [F_law_resized, h2, st0, st1, rw_len, rw_last, l1, l2]
    exact ⟨⟨a.sl.take (a.sl.length - 1), a.sk⟩, rfl, by simp; omega, by have := ha.nk; simpa using this, fun z hz => ha.ol z (List.mem_of_mem_take hz), ha.ok⟩
  · simp [F_law_resized, h0, h1, h2, st0, st1, rw_len, rw_last, l1, l2]
    exact ⟨⟨a.sl, a.sk.take (a.sk.length - 1)⟩, rfl, by have := ha.nl; simpa using this, by simp; omega, ha.ol, fun z hz => ha.ok z (List.mem_of_mem_take hz)⟩
end Lw
namespace Lw
open PySem L2 Vf
/-! the law's drawing -/
theorem int_row {rw hd : List Int} (h : RowOk hd rw 0) {i : Nat} (hi : i < hd.length) : ∃ z, rw[i]? = some z ∧ 0 ≤ z ∧ z < hd[i] := by
  obtain ⟨z, q1, q2, q3⟩ := h.h i hi
  have hl := h.len
  obtain ⟨y, hy⟩ : ∃ y, rw[i]? = some y := ⟨_, List.getElem?_eq_getElem (by omega)⟩
  have q4 : atI (rw.map D.int) (i : Int) = some (.int y) := atI_nat (by rw [List.getElem?_map, hy]; rfl)
  rw [q1] at q4
  cases q4
  exact ⟨z, hy, q2, q3⟩
theorem ix_int {rw : List Int} {i : Nat} {z : Int} (h : rw[i]? = some z) : oIx (.N, .lst (rw.map D.int)) (.N, .int (i : Int)) = some (.N, .int z) := by
  have q : atI (rw.map D.int) (i : Int) = some (.int z) := atI_nat (by rw [List.getElem?_map, h]; rfl)
  refine Ok.eq ?_
  generalize rw.map D.int = xs at q
  simp [q]
def menuL : List Str := ["node", "any", "mixed0", "unset9", "b", "num1", "z", "w"]
def MENU : D := .lst (menuL.map D.str)
theorem menu_ok : ∀ z ∈ menuL, PyData.strOk z = true := by decide +kernel
theorem menu_at (i : Int) : ∃ z, oIx (.N, MENU) (.N, .int (i % 8)) = some (.N, .str z) ∧ PyData.strOk z = true := by
  obtain ⟨n, hn, e⟩ : ∃ n : Nat, n < 8 ∧ i % 8 = (n : Int) := ⟨(i % 8).toNat, by omega, by omega⟩
  obtain ⟨z, hz⟩ : ∃ z, menuL[n]? = some z := ⟨_, List.getElem?_eq_getElem (by exact hn)⟩
  refine ⟨z, ?_, menu_ok z (List.mem_of_getElem? hz)⟩
  have h2 : atI (menuL.map D.str) (n : Int) = some (.str z) := atI_nat (by rw [List.getElem?_map, hz]; rfl)
  rw [e]
  unfold MENU
  refine Ok.eq ?_
  generalize menuL.map D.str = xs at h2
  simp [h2]
structure Fst6 (R : D) (m h : Nat) : Prop where
  m16 : m ≤ 16
  h16 : h ≤ 16
  r0 : oIx (.N, R) (.N, .int 0) = some (.N, .int (m : Int))
  r1 : oIx (.N, R) (.N, .int 1) = some (.N, .int (h : Int))
  r2 : ∃ z, oIx (.N, R) (.N, .int 2) = some (.N, .int z)
  r3 : ∃ z, oIx (.N, R) (.N, .int 3) = some (.N, .int z)
  r4 : ∃ z, oIx (.N, R) (.N, .int 4) = some (.N, .int z)
  r5 : ∃ n : Nat, n < 6 ∧ oIx (.N, R) (.N, .int 5) = some (.N, .int (n : Int))
theorem fst6 {rw : List Int} (h : RowOk [17, 17, 3, 8, 4, 6] rw 0) : ∃ m h, Fst6 (.lst (rw.map D.int)) m h := by
  obtain ⟨z0, a0, b0, c0⟩ := int_row h (i := 0) (by decide)
  obtain ⟨z1, a1, b1, c1⟩ := int_row h (i := 1) (by decide)
  obtain ⟨z2, a2, _⟩ := int_row h (i := 2) (by decide)
  obtain ⟨z3, a3, _⟩ := int_row h (i := 3) (by decide)
  obtain ⟨z4, a4, _⟩ := int_row h (i := 4) (by decide)
  obtain ⟨z5, a5, b5, c5⟩ := int_row h (i := 5) (by decide)
  have c0 : z0 < 17 := c0
  have c1 : z1 < 17 := c1
  have c5 : z5 < 6 := c5
  refine ⟨z0.toNat, z1.toNat, by omega, by omega, ?_, ?_, ⟨z2, ix_int a2⟩, ⟨z3, ix_int a3⟩, ⟨z4, ix_int a4⟩, z5.toNat, by omega, ?_⟩
  · rw [show ((z0.toNat : Nat) : Int) = z0 from by omega]; exact ix_int a0
  · rw [show ((z1.toNat : Nat) : Int) = z1 from by omega]; exact ix_int a1
  · rw [show ((z5.toNat : Nat) : Int) = z5 from by omega]; exact ix_int a5
theorem row4 {rw : List Int} (h : RowOk [5764801, 5764801, 1679616, 1679616] rw 0) : Row4 (.lst (rw.map D.int)) := fun i hi => by
  obtain ⟨z, a, b, c⟩ := int_row h (i := i) hi
  exact ⟨z, ix_int a, b, Int.lt_trans c ((by decide : ∀ s ∈ [5764801, 5764801, 1679616, 1679616], s < (4611686018427387904 : Int)) _ (List.getElem_mem _))⟩
theorem rowN {hd rw : List Int} (h : RowOk hd rw 0) (hs : ∀ s ∈ hd, s < 4611686018427387904) {n : Nat} (hn : n ≤ hd.length) : RowN n (.lst ((rw.take n).map D.int)) := fun i hi => by
  obtain ⟨z, a, b, c⟩ := int_row h (i := i) (by omega)
  exact ⟨z, ix_int (by rw [List.getElem?_take, if_pos hi]; exact a), b, Int.lt_trans c (hs _ (List.getElem_mem _))⟩
def sz2 : List Int := List.replicate 32 2
def sz6 : List Int := List.replicate 32 6
def sz35 : List Int := sz6 ++ [5, 16, 2]
theorem mul2 : oMulX (.N, .lst [.int 2]) (.N, .int 32) = some (.N, .lst (sz2.map D.int)) := Ok.eq (by simp [sz2]; decide)
theorem mul6 : oMulX (.N, .lst [.int 6]) (.N, .int 32) = some (.N, .lst (sz6.map D.int)) := Ok.eq (by simp [sz6]; decide)
theorem add6 : oAdd (.N, .lst (sz6.map D.int)) (.N, .lst [.int 5, .int 16, .int 2]) = some (.N, .lst (sz35.map D.int)) := by
  rw [oAdd_lst (by decide)]
  rfl
/-- the law's first part: the kinds -/
theorem kinds_at {ns : List Int} {R : D} {m h : Nat} (hR : Fst6 R m h) : ∃ ks, KindsOk ks ∧ (sOp oAdd (sL (sLd (sCons (sLit (.str "num")) (sCons (sLit (.str "mixed")) sNil)))) (sL (sLc (sR1 (sLit (.int 4))) (setV 4) sYes (sOp oIx (sVar 2) (sOp oMod (sB intB (sCons (sOp oAdd (sOp oIx (sVar 1) (sLit (.int 3))) (sVar 4)) sNil)) (sLit (.int 8)))) [4]))) ⟨[.val .N (.scr (ns.map D.int)), .val .N R, .val .N MENU, .un, .un, .un, .un, .un, .un, .un, .un, .un, .un, .un, .un, .un], []⟩ = some (.N, lsD ks) := by
  obtain ⟨z3, h3⟩ := hR.r3
  obtain ⟨zs, hz, hz2⟩ := lcL_mk (fe := (sOp oIx (sVar 2) (sOp oMod (sB intB (sCons (sOp oAdd (sOp oIx (sVar 1) (sLit (.int 3))) (sVar 4)) sNil)) (sLit (.int 8))))) (s := setV 4) (env := ⟨[.val .N (.scr (ns.map D.int)), .val .N R, .val .N MENU, .un, .un, .un, .un, .un, .un, .un, .un, .un, .un, .un, .un, .un], []⟩) (rs := iRng 4 0) (fun z : Str => D.str z) (fun _ z => PyData.strOk z = true) fun r hr => by
    obtain ⟨j, hj⟩ := List.mem_iff_getElem?.mp hr
    obtain ⟨hj1, rfl⟩ := iRng_get hj
    obtain ⟨z, hz, hz9⟩ := menu_at (z3 + (j : Int))
    simp [h3, hz]
    exact hz9
  have hzl : zs.length = 4 := by
    have := hz2.length
    simpa [iRng] using this
  have l4 : 4 ≤ lim := by decide
  have e : oAdd (.N, .lst [.str "num", .str "mixed"]) (.N, .lst (zs.map D.str)) = some (.N, lsD (("num" : Str) :: ("mixed" : Str) :: zs)) := by
    rw [oAdd_lst (by simp [hzl]; decide)]
    rfl
  refine ⟨("num" : Str) :: ("mixed" : Str) :: zs, ⟨by simp [hzl], fun z hz => ?_⟩, Ok.eq ?_⟩
  · simp only [List.mem_cons] at hz
    rcases hz with rfl | rfl | q
    · exact sok_n
    · exact sok_m
    · exact all2_ok hz2 z q
  · simp [l2, l4, hz]
    exact ⟨by unfold lim; omega, rfl⟩
/-- what the law draws first: three states of one size -/
def drM (ss : List St) : Mob := .lst (ss.map fun s => HV.pu (stD s))
theorem drawn_at {ns : List Int} (hn : LawOk ns) {R : D} {m h : Nat} (hR : Fst6 R m h) {ks : List Str} (hk : KindsOk ks) : Ok (zFor (sR1 (sLit (.int 3))) (setV 4) B_law_1 ⟨[.val .N (.scr (ns.map D.int)), .val .N R, .val .N MENU, .val .N (lsD ks), .un, .han 0, .un, .un, .un, .un, .un, .un, .un, .un, .un, .un], [some (.lst [])]⟩) fun o => ∃ (ss : List St) (s4 : Sl), o = .nx ⟨[.val .N (.scr (ns.map D.int)), .val .N R, .val .N MENU, .val .N (lsD ks), s4, .han 0, .un, .un, .un, .un, .un, .un, .un, .un, .un, .un], [some (drM ss)]⟩ ∧ ss.length = 3 ∧ ∀ s ∈ ss, StOk s ∧ s.sl.length = m ∧ s.sk.length = h := by
  have hfi : (sR1 (sLit (.int 3))) ⟨[.val .N (.scr (ns.map D.int)), .val .N R, .val .N MENU, .val .N (lsD ks), .un, .han 0, .un, .un, .un, .un, .un, .un, .un, .un, .un, .un], [some (.lst [])]⟩ = some (iRng 3 0) := Ok.eq (by simp)
  rw [zFor_go hfi]
  refine forZ_ok (fun k e => ∃ (ss : List St) (s4 : Sl), e = ⟨[.val .N (.scr (ns.map D.int)), .val .N R, .val .N MENU, .val .N (lsD ks), s4, .han 0, .un, .un, .un, .un, .un, .un, .un, .un, .un, .un], [some (drM ss)]⟩ ∧ ss.length = k ∧ ∀ s ∈ ss, StOk s ∧ s.sl.length = m ∧ s.sk.length = h) ⟨[], _, rfl, rfl, by simp⟩ ?_ ?_
  · rintro k r env hk1 ⟨ss, s4, rfl, hs1, hs2⟩
    obtain ⟨hk2, rfl⟩ := iRng_get hk1
    refine ⟨⟨[.val .N (.scr (ns.map D.int)), .val .N R, .val .N MENU, .val .N (lsD ks), .val .N (.int (k : Int)), .han 0, .un, .un, .un, .un, .un, .un, .un, .un, .un, .un], [some (drM ss)]⟩, rfl, ?_⟩
    show Ok (B_law_1 _) _
    unfold B_law_1
    obtain ⟨c, hc⟩ := cell_at hn .N (i := 1 + (k : Int)) (by omega) (by omega)
    obtain ⟨rw, hrw, hro⟩ := row_at0 c [5764801, 5764801, 1679616, 1679616] (by decide) (by decide)
    have h4 := row4 hro
    generalize D.lst (rw.map D.int) = R4 at hrw h4
    obtain ⟨r, hr, s, rfl, hs, hm, hh⟩ := state_of_at hk hR.m16 hR.h16 h4
    have l4 : 4 ≤ lim := by decide
    have ls : ss.length ≤ lim := by unfold lim; omega
    have hT : ([some (drM ss)] : Tb)[0]? = some (some (drM ss)) := rfl
    have hT2 : ([some (drM ss)] : Tb)[0]? = some (some (.lst (ss.map fun s => HV.pu (stD s)))) := rfl
    simp only [List.map_cons, List.map_nil] at hrw
    have hlm : lmK mApp (.ob 0) [.pu (stD s)] [some (drM ss)] = some (.val (.pu .non) [some (drM (ss ++ [s]))]) := by
      rw [lmK_ob hT2, mApp_one, if_pos (by simpa using ls)]
      simp [drM]
    have his : isLst [some (drM ss)] (.ob 0) = some () := rfl
    simp [hR.r0, hR.r1, hc, hrw, hr, l4, hlm, his]
    exact ⟨ss ++ [s], rfl, by simp [hs1], fun y hy => by
      rcases List.mem_append.mp hy with q | q
      · exact hs2 y q
      · rw [List.mem_singleton.mp q]
        exact ⟨hs, hm, hh⟩⟩
  · rintro env ⟨ss, s4, rfl, hs1, hs2⟩
    exact ⟨ss, _, rfl, hs1, hs2⟩
end Lw
namespace Lw
open PySem L2 Vf
/-! merging, as it must be -/
theorem mR_assoc : ∀ x y z : List Str, mR (mR x y) z = mR x (mR y z)
  | [], _, _ => by simp [mR]
  | _ :: _, [], _ => by simp [mR]
  | _ :: _, _ :: _, [] => by simp [mR]
  | a :: x, b :: y, c :: z => by
    have ih := mR_assoc x y z
    unfold mR at ih ⊢
    simp only [List.zipWith_cons_cons]
    rw [ih, mE_assoc]
theorem mS_assoc (a b c : St) : mS (mS a b) c = mS a (mS b c) := by
  unfold mS
  simp only [mR_assoc]
theorem fR_mR : ∀ x y z : List Str, x.length = z.length → y.length = z.length → fR (mR (mR x y) z) z = (fR x z && fR y z)
  | [], [], [], _, _ => rfl
  | a :: x, b :: y, c :: z, h1, h2 => by
    have ih := fR_mR x y z (by simpa using h1) (by simpa using h2)
    unfold fR mR at ih ⊢
    simp only [List.zipWith_cons_cons, List.all_cons, id]
    rw [ih, fE_mE]
    cases fE a c <;> cases fE b c <;> cases (List.zipWith fE x z).all id <;> rfl
  | [], [], _ :: _, h, _ => by cases h
  | [], _ :: _, [], _, h => by cases h
  | [], _ :: _, _ :: _, h, _ => by cases h
  | _ :: _, [], [], h, _ => by cases h
  | _ :: _, [], _ :: _, _, h => by cases h
  | _ :: _, _ :: _, [], h, _ => by cases h
structure Sz (m h : Nat) (s : St) : Prop where
  ok : StOk s
  m : s.sl.length = m
  h : s.sk.length = h
theorem sz_mS {m h : Nat} {a b : St} (ha : Sz m h a) (hb : Sz m h b) : Sz m h (mS a b) := by
  refine ⟨mS_ok ha.ok, ?_, ?_⟩
  · show (mR a.sl b.sl).length = m
    have := ha.m
    have := hb.m
    unfold mR
    rw [List.length_zipWith]
    omega
  · show (mR a.sk b.sk).length = h
    have := ha.h
    have := hb.h
    unfold mR
    rw [List.length_zipWith]
    omega
theorem fS_mS {m h : Nat} {a b c : St} (ha : Sz m h a) (hb : Sz m h b) (hc : Sz m h c) : fS (mS (mS a b) c) c = (fS a c && fS b c) := by
  have q := sz_mS (sz_mS ha hb) hc
  have e1 : ∀ s, Sz m h s → fS s c = (fR s.sl c.sl && fR s.sk c.sk) := fun s hs => by
    unfold fS
    have : decide (s.sl.length = c.sl.length) = true := by simp [hs.m, hc.m]
    rw [this]
    have : decide (s.sk.length = c.sk.length) = true := by simp [hs.h, hc.h]
    rw [this]
    rfl
  rw [e1 _ q, e1 _ ha, e1 _ hb]
  show (fR (mR (mR a.sl b.sl) c.sl) c.sl && fR (mR (mR a.sk b.sk) c.sk) c.sk) = _
  rw [fR_mR _ _ _ (by rw [ha.m, hc.m]) (by rw [hb.m, hc.m]), fR_mR _ _ _ (by rw [ha.h, hc.h]) (by rw [hb.h, hc.h])]
  cases fR a.sl c.sl <;> cases fR b.sl c.sl <;> cases fR a.sk c.sk <;> cases fR b.sk c.sk <;> rfl
/-- the six states -/
def SixOk (m h : Nat) (SS : D) : Prop := ∀ i : Nat, i < 6 → ∃ s, oIx (.N, SS) (.N, .int (i : Int)) = some (.N, stD s) ∧ Sz m h s
theorem loop2 {ns : List Int} {ks : List Str} {R M SS : D} {a b c : St} {m h : Nat} (hR : Fst6 R m h) (hS : SixOk m h SS) {s4 s13 : Sl} {T : Tb} : Ok (zFor (sR1 (sLit (.int 36))) (setV 4) B_law_2 ⟨[.val .N (.scr (ns.map D.int)), .val .N R, .val .N MENU, .val .N (lsD ks), s4, .han 0, .val .N (stD a), .val .N (stD b), .val .N (stD (mS a b)), .val .N M, .val .N (stD c), .val .N (stD (mS (mS a b) c)), .val .N SS, .un, .un, .un], T⟩) fun o => ∃ (s4 : Sl) (T : Tb), o = .nx ⟨[.val .N (.scr (ns.map D.int)), .val .N R, .val .N MENU, .val .N (lsD ks), s4, .han 0, .val .N (stD a), .val .N (stD b), .val .N (stD (mS a b)), .val .N M, .val .N (stD c), .val .N (stD (mS (mS a b) c)), .val .N SS, .un, .un, .un], T⟩ := by
  have hfi : (sR1 (sLit (.int 36))) ⟨[.val .N (.scr (ns.map D.int)), .val .N R, .val .N MENU, .val .N (lsD ks), s4, .han 0, .val .N (stD a), .val .N (stD b), .val .N (stD (mS a b)), .val .N M, .val .N (stD c), .val .N (stD (mS (mS a b) c)), .val .N SS, .un, .un, .un], T⟩ = some (iRng 36 0) := Ok.eq (by simp)
  rw [zFor_go hfi]
  refine forZ_ok (fun k e => ∃ (s4 : Sl) (T : Tb), e = ⟨[.val .N (.scr (ns.map D.int)), .val .N R, .val .N MENU, .val .N (lsD ks), s4, .han 0, .val .N (stD a), .val .N (stD b), .val .N (stD (mS a b)), .val .N M, .val .N (stD c), .val .N (stD (mS (mS a b) c)), .val .N SS, .un, .un, .un], T⟩) ⟨_, _, rfl⟩ ?_ ?_
  · rintro k r env hk1 ⟨s4, T, rfl⟩
    obtain ⟨hk2, rfl⟩ := iRng_get hk1
    refine ⟨⟨[.val .N (.scr (ns.map D.int)), .val .N R, .val .N MENU, .val .N (lsD ks), .val .N (.int (k : Int)), .han 0, .val .N (stD a), .val .N (stD b), .val .N (stD (mS a b)), .val .N M, .val .N (stD c), .val .N (stD (mS (mS a b) c)), .val .N SS, .un, .un, .un], T⟩, rfl, ?_⟩
    show Ok (B_law_2 _) _
    unfold B_law_2
    obtain ⟨n, hn, en⟩ : ∃ n : Nat, n < 6 ∧ (k : Int) / 6 = (n : Int) := ⟨k / 6, by omega, by omega⟩
    obtain ⟨i, hi, ei⟩ : ∃ i : Nat, i < 6 ∧ (k : Int) % 6 = (i : Int) := ⟨k % 6, by omega, by omega⟩
    obtain ⟨z, hz⟩ := hR.r2
    obtain ⟨f, hf, ef⟩ : ∃ f : Nat, f < 3 ∧ (z + (k : Int)) % 3 = (f : Int) := ⟨((z + (k : Int)) % 3).toNat, by omega, by omega⟩
    obtain ⟨x, hx, ox⟩ := hS n hn
    obtain ⟨y, hy, oy⟩ := hS i hi
    obtain ⟨T', hp⟩ := pair_at ox.ok oy.ok hf T
    refine zif_f (T := T') (Ok.eq ?_) ⟨_, rfl, _, _, rfl⟩
    simp [en, ei, hx, hy, hz, ef, hp]
  · rintro env ⟨s4, T, rfl⟩
    exact ⟨_, _, rfl⟩
theorem loop3 {ns : List Int} {ks : List Str} {R M SS : D} {a b c : St} {m h : Nat} (hR : Fst6 R m h) (hS : SixOk m h SS) {s4 s13 : Sl} {T : Tb} : Ok (zFor (sR1 (sLit (.int 6))) (setV 4) B_law_3 ⟨[.val .N (.scr (ns.map D.int)), .val .N R, .val .N MENU, .val .N (lsD ks), s4, .han 0, .val .N (stD a), .val .N (stD b), .val .N (stD (mS a b)), .val .N M, .val .N (stD c), .val .N (stD (mS (mS a b) c)), .val .N SS, s13, .un, .un], T⟩) fun o => ∃ (s4 s13 : Sl) (T : Tb), o = .nx ⟨[.val .N (.scr (ns.map D.int)), .val .N R, .val .N MENU, .val .N (lsD ks), s4, .han 0, .val .N (stD a), .val .N (stD b), .val .N (stD (mS a b)), .val .N M, .val .N (stD c), .val .N (stD (mS (mS a b) c)), .val .N SS, s13, .un, .un], T⟩ := by
  have hfi : (sR1 (sLit (.int 6))) ⟨[.val .N (.scr (ns.map D.int)), .val .N R, .val .N MENU, .val .N (lsD ks), s4, .han 0, .val .N (stD a), .val .N (stD b), .val .N (stD (mS a b)), .val .N M, .val .N (stD c), .val .N (stD (mS (mS a b) c)), .val .N SS, s13, .un, .un], T⟩ = some (iRng 6 0) := Ok.eq (by simp)
  rw [zFor_go hfi]
  refine forZ_ok (fun k e => ∃ (s4 s13 : Sl) (T : Tb), e = ⟨[.val .N (.scr (ns.map D.int)), .val .N R, .val .N MENU, .val .N (lsD ks), s4, .han 0, .val .N (stD a), .val .N (stD b), .val .N (stD (mS a b)), .val .N M, .val .N (stD c), .val .N (stD (mS (mS a b) c)), .val .N SS, s13, .un, .un], T⟩) ⟨_, _, _, rfl⟩ ?_ ?_
  · rintro k r env hk1 ⟨s4, s13, T, rfl⟩
    obtain ⟨hk2, rfl⟩ := iRng_get hk1
    refine ⟨⟨[.val .N (.scr (ns.map D.int)), .val .N R, .val .N MENU, .val .N (lsD ks), .val .N (.int (k : Int)), .han 0, .val .N (stD a), .val .N (stD b), .val .N (stD (mS a b)), .val .N M, .val .N (stD c), .val .N (stD (mS (mS a b) c)), .val .N SS, s13, .un, .un], T⟩, rfl, ?_⟩
    show Ok (B_law_3 _) _
    unfold B_law_3
    obtain ⟨n, hn, h5⟩ := hR.r5
    obtain ⟨z, h4⟩ := hR.r4
    have m16 := hR.m16
    have h16 := hR.h16
    obtain ⟨x, hx, ox⟩ := hS k hk2
    obtain ⟨y, hy, oy⟩ := hS n hn
    obtain ⟨r, hr, q, rfl, hq⟩ := resized_at ox.ok (by rw [ox.m]; exact m16) (by rw [ox.h]; exact h16) (i := z)
    refine seq_step (P := fun o => o = .nx ⟨[.val .N (.scr (ns.map D.int)), .val .N R, .val .N MENU, .val .N (lsD ks), .val .N (.int (k : Int)), .han 0, .val .N (stD a), .val .N (stD b), .val .N (stD (mS a b)), .val .N M, .val .N (stD c), .val .N (stD (mS (mS a b) c)), .val .N SS, .val .N (stD q), .un, .un], T⟩) (by simp [hx, h4, hr]) ?_
    rintro o rfl
    refine ⟨_, rfl, ?_⟩
    obtain ⟨T1, p1⟩ := pair_at oy.ok hq (f := 0) (by omega) T
    obtain ⟨T2, p2⟩ := pair_at hq oy.ok (f := 1) (by omega) T1
    have p1 : g_law_pair_asked [.pu (stD y), .pu (stD q), .pu (.int 0)] T = some (.val (.pu (.bl true)) T1) := p1
    have p2 : g_law_pair_asked [.pu (stD q), .pu (stD y), .pu (.int 1)] T1 = some (.val (.pu (.bl true)) T2) := p2
    refine zif_f (T := T2) (Ok.eq ?_) ⟨_, rfl, _, _, _, rfl⟩
    simp [hy, h5, p1, p2]
  · rintro env ⟨s4, s13, T, rfl⟩
    exact ⟨_, _, _, rfl⟩
end Lw
namespace Lw
open PySem L2 Vf
theorem at30 {α : Type} {a b c : α} : atI [a, b, c] 0 = some a := rfl
theorem at31 {α : Type} {a b c : α} : atI [a, b, c] 1 = some b := rfl
theorem at32 {α : Type} {a b c : α} : atI [a, b, c] 2 = some c := rfl
theorem sz_like {m h : Nat} {a s : St} (ha : Sz m h a) (hl : Like a s) : Sz m h s := ⟨hl.1, by rw [hl.2.1, ha.m], by rw [hl.2.2, ha.h]⟩
theorem lm_at {m h : Nat} {a b : St} (ha : Sz m h a) (hb : Sz m h b) : g_law_merged [(.N, stD a), (.N, stD b)] = some (.N, stD (mS a b)) := lmS_at ha.ok (by rw [ha.m, hb.m]) (by rw [ha.h, hb.h])
theorem pm_at {m h : Nat} {a b : St} (ha : Sz m h a) (hb : Sz m h b) (T : Tb) : ∃ T', g_merged [.pu (stD a), .pu (stD b)] T = some (.val (.pu (stD (mS a b))) T') := merged_at ha.ok (frz_sh ha.ok 0) (frz_sh hb.ok 0) T
theorem pf_at {m h : Nat} {a b : St} (ha : Sz m h a) (hb : Sz m h b) (T : Tb) : ∃ T', g_fits [.pu (stD a), .pu (stD b)] T = some (.val (.pu (.bl (fS a b))) T') := fits_at ha.ok (frz_sh ha.ok 0) (frz_sh hb.ok 0) T
def sixD (a b c d e f : St) : D := .lst [stD a, stD b, stD c, stD d, stD e, stD f]
theorem six_ok {m h : Nat} {a b c d e f : St} (ha : Sz m h a) (hb : Sz m h b) (hc : Sz m h c) (hd : Sz m h d) (he : Sz m h e) (hf : Sz m h f) : SixOk m h (sixD a b c d e f) := fun i hi => by
  match i, hi with
  | 0, _ => exact ⟨a, rfl, ha⟩
  | 1, _ => exact ⟨b, rfl, hb⟩
  | 2, _ => exact ⟨c, rfl, hc⟩
  | 3, _ => exact ⟨d, rfl, hd⟩
  | 4, _ => exact ⟨e, rfl, he⟩
  | 5, _ => exact ⟨f, rfl, hf⟩
/-- the numbers that change the third state -/
structure MoreOk (M : D) : Prop where
  cut : ∃ M32, slD (.N, M) none (some 32) = some (.N, M32) ∧ RowN 32 M32
  p : ∃ z, oIx (.N, M) (.N, .int 32) = some (.N, .int z) ∧ (z ≤ 1 ∨ z = 2 ∨ z = 3 ∨ z = 4)
  q : ∃ z, oIx (.N, M) (.N, .int 33) = some (.N, .int z)
  r : ∃ k : Nat, k < 2 ∧ oIx (.N, M) (.N, .int 34) = some (.N, .int (k : Int))
theorem more_ok {rw : List Int} (h : RowOk sz35 rw 0) : MoreOk (.lst (rw.map D.int)) := by
  obtain ⟨z, a1, a2, a3⟩ := int_row h (i := 32) (by decide)
  obtain ⟨z2, b1, _⟩ := int_row h (i := 33) (by decide)
  obtain ⟨z3, c1, c2, c3⟩ := int_row h (i := 34) (by decide)
  have a3 : z < 5 := a3
  have c3 : z3 < 2 := c3
  refine ⟨⟨.lst ((rw.take 32).map D.int), ?_, rowN h (by decide) (by decide)⟩, ⟨z, ix_int a1, by omega⟩, ⟨z2, ix_int b1⟩, ⟨z3.toNat, by omega, ?_⟩⟩
  · rw [slD_lst, show (32 : Int) = ((32 : Nat) : Int) from rfl, cutD_to, List.map_take]
    rfl
  · rw [show ((z3.toNat : Nat) : Int) = z3 from by omega]
    exact ix_int c1
theorem law_true : ∀ ns, LawOk ns → Ok (g_law [scrX ns] []) fun r => ∃ T, r = .val (.pu (.bl true)) T := by
  intro ns hn
  unfold g_law
  rw [gFX_at (by rfl), Ok_bind]
  show Ok (F_law ⟨[.val .N (.scr (ns.map D.int)), .un, .un, .un, .un, .un, .un, .un, .un, .un, .un, .un, .un, .un, .un, .un], []⟩) _
  unfold F_law
  obtain ⟨c0, hc0⟩ := cell_at hn .N (i := 0) (by omega) (by omega)
  obtain ⟨rw, hrw, hro⟩ := row_at0 c0 [17, 17, 3, 8, 4, 6] (by decide) (by decide)
  obtain ⟨m, h, hR⟩ := fst6 hro
  have l6 : 6 ≤ lim := by decide
  have l8 : 8 ≤ lim := by decide
  have l1 : 1 ≤ lim := by decide
  have l3 : 3 ≤ lim := by decide
  simp only [List.map_cons, List.map_nil] at hrw
  generalize D.lst (rw.map D.int) = R at hrw hR
  refine seq_step (P := fun o => o = .nx ⟨[.val .N (.scr (ns.map D.int)), .val .N R, .un, .un, .un, .un, .un, .un, .un, .un, .un, .un, .un, .un, .un, .un], []⟩) (by simp [hc0, hrw, l6]) ?_
  rintro o rfl
  refine ⟨_, rfl, ?_⟩
  refine seq_step (P := fun o => o = .nx ⟨[.val .N (.scr (ns.map D.int)), .val .N R, .val .N MENU, .un, .un, .un, .un, .un, .un, .un, .un, .un, .un, .un, .un, .un], []⟩) (by simp [l8]; rfl) ?_
  rintro o rfl
  refine ⟨_, rfl, ?_⟩
  obtain ⟨ks, hk, hks⟩ := kinds_at (ns := ns) hR
  refine seq_step (P := fun o => o = .nx ⟨[.val .N (.scr (ns.map D.int)), .val .N R, .val .N MENU, .val .N (lsD ks), .un, .un, .un, .un, .un, .un, .un, .un, .un, .un, .un, .un], []⟩) ?_ ?_
  · rw [zSet_eq, xE_eq, hks]
    simp [lsD]
  rintro o rfl
  refine ⟨_, rfl, ?_⟩
  refine seq_step (P := fun o => o = .nx ⟨[.val .N (.scr (ns.map D.int)), .val .N R, .val .N MENU, .val .N (lsD ks), .un, .han 0, .un, .un, .un, .un, .un, .un, .un, .un, .un, .un], [some (.lst [])]⟩) (by simp [lstK]) ?_
  rintro o rfl
  refine ⟨_, rfl, ?_⟩
  refine seq_step (drawn_at hn hR hk) ?_
  rintro o ⟨ss, s4, rfl, hs1, hs2⟩
  refine ⟨_, rfl, ?_⟩
  obtain ⟨s0, s1, s2, rfl⟩ : ∃ s0 s1 s2, ss = [s0, s1, s2] := by
    match ss, hs1 with
    | [x, y, z], _ => exact ⟨x, y, z, rfl⟩
  have z0 : Sz m h s0 := ⟨(hs2 s0 (by simp)).1, (hs2 s0 (by simp)).2.1, (hs2 s0 (by simp)).2.2⟩
  have z1 : Sz m h s1 := ⟨(hs2 s1 (by simp)).1, (hs2 s1 (by simp)).2.1, (hs2 s1 (by simp)).2.2⟩
  have z2 : Sz m h s2 := ⟨(hs2 s2 (by simp)).1, (hs2 s2 (by simp)).2.1, (hs2 s2 (by simp)).2.2⟩
  have m16 := hR.m16
  have h16 := hR.h16
  have x0 : ixX [some (drM [s0, s1, s2])] (.ob 0) 0 = some (.pu (stD s0)) := rfl
  have x1 : ixX [some (drM [s0, s1, s2])] (.ob 0) 1 = some (.pu (stD s1)) := rfl
  have x2 : ixX [some (drM [s0, s1, s2])] (.ob 0) 2 = some (.pu (stD s2)) := rfl
  have xl : ∀ {x y z : HV}, lstK [x, y, z] [some (drM [s0, s1, s2])] = some (.val (.ob 1) ([some (drM [s0, s1, s2])] ++ [some (.lst [x, y, z])])) := by
    intro x y z
    unfold lstK
    exact if_pos l3
  have xi : ∀ {x y z : HV} {i : Int}, ixX ([some (drM [s0, s1, s2])] ++ [some (.lst [x, y, z])]) (.ob 1) i = atI [x, y, z] i := fun {x y z i} => ixX_lst rfl
  generalize hT0 : ([some (drM [s0, s1, s2])] : Tb) = T0 at x0 x1 x2 xl xi
  refine seq_step (P := fun o => o = .nx ⟨[.val .N (.scr (ns.map D.int)), .val .N R, .val .N MENU, .val .N (lsD ks), s4, .han 0, .val .N (stD s0), .un, .un, .un, .un, .un, .un, .un, .un, .un], T0⟩) (by simp [x0]) ?_
  rintro o rfl
  refine ⟨_, rfl, ?_⟩
  obtain ⟨c4, hc4⟩ := cell_at hn .N (i := 4) (by omega) (by omega)
  obtain ⟨rw4, hrw4, hro4⟩ := row_at0 c4 sz2 (by decide) (by decide)
  have hR4 := rowN hro4 (n := 32) (by decide) (by decide)
  rw [List.take_of_length_le (by have := hro4.len; rw [this]; decide)] at hR4
  generalize D.lst (rw4.map D.int) = R4 at hrw4 hR4
  obtain ⟨_, hb, b, rfl, lb⟩ := mingled_at z1.ok z0.ok (by rw [z1.m, z0.m]) (by rw [z1.h, z0.h]) (by rw [z1.m]; exact m16) (by rw [z1.h]; exact h16) hR4
  have zb := sz_like z1 lb
  refine seq_step (P := fun o => o = .nx ⟨[.val .N (.scr (ns.map D.int)), .val .N R, .val .N MENU, .val .N (lsD ks), s4, .han 0, .val .N (stD s0), .val .N (stD b), .un, .un, .un, .un, .un, .un, .un, .un], T0⟩) (by simp [x1, hc4, mul2, hrw4, pK, hb, dn, l1, -oMulX_lst]) ?_
  rintro o rfl
  refine ⟨_, rfl, ?_⟩
  refine seq_step (P := fun o => o = .nx ⟨[.val .N (.scr (ns.map D.int)), .val .N R, .val .N MENU, .val .N (lsD ks), s4, .han 0, .val .N (stD s0), .val .N (stD b), .val .N (stD (mS s0 b)), .un, .un, .un, .un, .un, .un, .un], T0⟩) (by simp [lm_at z0 zb]) ?_
  rintro o rfl
  refine ⟨_, rfl, ?_⟩
  obtain ⟨c5, hc5⟩ := cell_at hn .N (i := 5) (by omega) (by omega)
  obtain ⟨rw5, hrw5, hro5⟩ := row_at0 c5 sz35 (by decide) (by decide)
  have hM := more_ok hro5
  generalize D.lst (rw5.map D.int) = M at hrw5 hM
  refine seq_step (P := fun o => o = .nx ⟨[.val .N (.scr (ns.map D.int)), .val .N R, .val .N MENU, .val .N (lsD ks), s4, .han 0, .val .N (stD s0), .val .N (stD b), .val .N (stD (mS s0 b)), .val .N M, .un, .un, .un, .un, .un, .un], T0⟩) (by simp [hc5, mul6, add6, hrw5, l1, l3, -oMulX_lst]) ?_
  rintro o rfl
  refine ⟨_, rfl, ?_⟩
  obtain ⟨M32, hcut, hM32⟩ := hM.cut
  have zab := sz_mS z0 zb
  obtain ⟨_, hc, c0', rfl, lc⟩ := raised_at zab.ok (by rw [zab.m]; exact m16) (by rw [zab.h]; exact h16) hM32
  have zc0 := sz_like zab lc
  refine seq_step (P := fun o => o = .nx ⟨[.val .N (.scr (ns.map D.int)), .val .N R, .val .N MENU, .val .N (lsD ks), s4, .han 0, .val .N (stD s0), .val .N (stD b), .val .N (stD (mS s0 b)), .val .N M, .val .N (stD c0'), .un, .un, .un, .un, .un], T0⟩) (by simp [hcut, hc]) ?_
  rintro o rfl
  refine ⟨_, rfl, ?_⟩
  refine zq_mid (fun e => ∃ (c : St) (T : Tb), e = ⟨[.val .N (.scr (ns.map D.int)), .val .N R, .val .N MENU, .val .N (lsD ks), s4, .han 0, .val .N (stD s0), .val .N (stD b), .val .N (stD (mS s0 b)), .val .N M, .val .N (stD c), .un, .un, .un, .un, .un], T⟩ ∧ Sz m h c) ?_ ?_
  · obtain ⟨p, hp, hp4⟩ := hM.p
    obtain ⟨q, hq⟩ := hM.q
    obtain ⟨k, hk2, hr⟩ := hM.r
    rcases hp4 with hp4 | hp4
    · refine zif_f (T := T0) (Ok.eq ?_) ⟨_, rfl, c0', _, rfl, zc0⟩
      simp [hp]
      omega
    · refine zif_t (T := T0) (Ok.eq ?_) ?_
      · simp [hp]
        omega
      have low : ∀ o, Sz m h o → Ok (g_law_lowered [(.N, stD c0'), (.N, stD o), (.N, .int (k : Int)), (.N, .int q)]) fun r => ∃ s, r = (.N, stD s) ∧ Like c0' s := fun o ho => lowered_at zc0.ok ho.ok (by rw [zc0.m, ho.m]) (by rw [zc0.h, ho.h]) hk2 q
      rcases hp4 with rfl | rfl | rfl
      · obtain ⟨_, g1, c, rfl, lc⟩ := low s0 z0
        simp [x2, xl, xi, hp, hq, hr, pK, dn, g1, at30, at31, at32]
        exact ⟨c, rfl, sz_like zc0 lc⟩
      · obtain ⟨_, g1, c, rfl, lc⟩ := low b zb
        simp [x2, xl, xi, hp, hq, hr, pK, dn, g1, at30, at31, at32]
        exact ⟨c, rfl, sz_like zc0 lc⟩
      · obtain ⟨_, g1, c, rfl, lc⟩ := low s2 z2
        simp [x2, xl, xi, hp, hq, hr, pK, dn, g1, at30, at31, at32]
        exact ⟨c, rfl, sz_like zc0 lc⟩
  rintro e ⟨c, T, rfl, zc⟩
  generalize hSS : sixD s0 b (mS s0 b) c (mS (mS s0 b) c) (mS s0 c) = SS
  have hS : SixOk m h SS := by rw [← hSS]; exact six_ok z0 zb zab zc (sz_mS zab zc) (sz_mS z0 zc)
  refine seq_step (P := fun o => o = .nx ⟨[.val .N (.scr (ns.map D.int)), .val .N R, .val .N MENU, .val .N (lsD ks), s4, .han 0, .val .N (stD s0), .val .N (stD b), .val .N (stD (mS s0 b)), .val .N M, .val .N (stD c), .val .N (stD (mS (mS s0 b) c)), .un, .un, .un, .un], T⟩) (by simp [lm_at zab zc]) ?_
  rintro o rfl
  refine ⟨_, rfl, ?_⟩
  generalize s0 = a at *
  refine seq_step (P := fun o => o = .nx ⟨[.val .N (.scr (ns.map D.int)), .val .N R, .val .N MENU, .val .N (lsD ks), s4, .han 0, .val .N (stD a), .val .N (stD b), .val .N (stD (mS a b)), .val .N M, .val .N (stD c), .val .N (stD (mS (mS a b) c)), .val .N SS, .un, .un, .un], T⟩) ?_ ?_
  · simp [lm_at z0 zc, l6]
    rw [← hSS]
    rfl
  rintro o rfl
  refine ⟨_, rfl, ?_⟩
  refine seq_step (loop2 hR hS (s13 := .un)) ?_
  rintro o ⟨s4, T, rfl⟩
  refine ⟨_, rfl, ?_⟩
  refine seq_step (loop3 hR hS (s13 := .un)) ?_
  rintro o ⟨s4, s13, T, rfl⟩
  refine ⟨_, rfl, ?_⟩
  obtain ⟨T1, m1⟩ := pm_at z0 zb T
  obtain ⟨T2, m2⟩ := pm_at zab zc T1
  obtain ⟨T3, m3⟩ := pm_at zb zc T2
  obtain ⟨T4, m4⟩ := pm_at z0 (sz_mS zb zc) T3
  have zd := sz_mS zab zc
  rw [← mS_assoc] at m4
  have hsame := same_at zd.ok
  obtain ⟨T5, m5⟩ := pf_at zd zc T4
  obtain ⟨T6, m6⟩ := pf_at z0 zc T5
  obtain ⟨T7, m7⟩ := pf_at zb zc T6
  refine seq_step (P := fun o => o = .nx ⟨[.val .N (.scr (ns.map D.int)), .val .N R, .val .N MENU, .val .N (lsD ks), s4, .han 0, .val .N (stD a), .val .N (stD b), .val .N (stD (mS a b)), .val .N M, .val .N (stD c), .val .N (stD (mS (mS a b) c)), .val .N SS, s13, .val .N (stD (mS (mS a b) c)), .un], T2⟩) (by simp [m1, m2]) ?_
  rintro o rfl
  refine ⟨_, rfl, ?_⟩
  refine zq_mid (fun e => e = ⟨[.val .N (.scr (ns.map D.int)), .val .N R, .val .N MENU, .val .N (lsD ks), s4, .han 0, .val .N (stD a), .val .N (stD b), .val .N (stD (mS a b)), .val .N M, .val .N (stD c), .val .N (stD (mS (mS a b) c)), .val .N SS, s13, .val .N (stD (mS (mS a b) c)), .un], T4⟩) ?_ ?_
  · refine zif_f (T := T4) (Ok.eq ?_) ⟨_, rfl, rfl⟩
    simp [hsame, m3, m4, pK, dn]
  rintro e rfl
  refine seq_step (P := fun o => o = .nx ⟨[.val .N (.scr (ns.map D.int)), .val .N R, .val .N MENU, .val .N (lsD ks), s4, .han 0, .val .N (stD a), .val .N (stD b), .val .N (stD (mS a b)), .val .N M, .val .N (stD c), .val .N (stD (mS (mS a b) c)), .val .N SS, s13, .val .N (stD (mS (mS a b) c)), .val .N (.bl (fS (mS (mS a b) c) c))], T5⟩) (by simp [m5]) ?_
  rintro o rfl
  refine ⟨_, rfl, ?_⟩
  have hl := lfS_at zd.ok zc.ok
  rw [fS_mS z0 zb zc] at hl m5 ⊢
  cases q1 : fS a c with
  | true =>
    cases q2 : fS b c with
    | true => simp [q1, q2] at m6 m7 hl ⊢; simp [m6, m7, hl]
    | false => simp [q1, q2] at m6 m7 hl ⊢; simp [m6, m7, hl]
  | false => simp [q1] at m6 m7 hl ⊢; simp [m6, m7, hl]
end Lw
namespace Lw
open PySem PyProof.Rows L2 Vf
def topS (i : Nat) : Stmt := PySem.Challenge.pw_quietbroom_k20_merging.main.body.getD i (.Pass ⟨0, 0, 0, 0⟩)
structure Tx (K : PySem.W.Frag) (w : World) (mg : Str → Option Value) (cl : Str → Option Addr) : Prop where
  nil : True
  n_all : mg "all" = none
  n_bool : mg "bool" = none
  n_int : mg "int" = none
  n_isinstance : mg "isinstance" = none
  n_len : mg "len" = none
  n_list : mg "list" = none
  n_range : mg "range" = none
  n_str : mg "str" = none
  n_tuple : mg "tuple" = none
  n_zip : mg "zip" = none
  g_MIXED : Gc K mg cl "MIXED" G_MIXED
  g_UNSET : Gc K mg cl "UNSET" G_UNSET
section
variable {P : Program} {w : World} {K : PySem.W.Frag} {mg : Str → Option Value} {base : Heap} {cl : Str → Option Addr}
abbrev s_law_digits : Stmt := topS 12
theorem sc_law_digits : FnScope N_law_digits ["cell", "sizes"] (defScope s_law_digits) := ⟨rfl, rfl, rfl, by decide +kernel, rfl, by decide +kernel, by decide +kernel⟩
theorem ca_law_digits (T : Tx K w mg cl) {f : Addr} {fd : FuncData} (D : Df K mg "_law_digits" s_law_digits f fd) : Ca P w K mg base cl 1 "_law_digits" ["cell", "sizes"] g_law_digits :=
  ca_def D sc_law_digits len_law_digits okt_law_digits (D.fn.binds (fun _ _ _ _ _ _ us hl => match us, hl with | [_, _], _ => rfl)) (kb_of D.fn (fun _ _ _ _ _ _ us hl => match us, hl with | [_, _], _ => rfl)) (fun cdv A outer s H E hr hX =>
  (js_cons (js_own 2 hX (jl_d ja_nil)) (js_cons (js_set 3 hX (je_ty cr_int T.n_int (by decide +kernel) (ja_cons (je_var 0) ja_nil))) (js_cons (js_if (jt_cmp or_ge (je_var 3) (je_op or_pow je_int je_int))
  (js_cons (js_set 3 hX (je_op or_sub (je_var 3) (je_op or_pow je_int je_int))) (js_cons (js_for PassesOwn.never hX (ji_it (je_var 1)) (jg_name 4 hX)
  (js_cons (js_app 2 (je_op or_mod (je_ty cr_int T.n_int (by decide +kernel) (ja_cons (je_var 3) ja_nil)) (je_var 4))) (js_one (js_set 3 hX (je_op or_fd (je_ty cr_int T.n_int (by decide +kernel) (ja_cons (je_var 3) ja_nil)) (je_var 4)))))) (js_one (js_ret (je_var 2)))))
  js_nil) (js_cons (js_set 5 hX (je_op or_mod (je_ty cr_int T.n_int (by decide +kernel) (ja_cons (je_var 3) ja_nil)) je_int)) (js_cons (js_for PassesOwn.never hX (ji_range1 gwf_s T.n_range (ja_cons (je_b cr_len T.n_len PySem.boot_len (ja_cons (je_var 1) ja_nil)) ja_nil)) (jg_name 6 hX)
  (js_cons (js_set 5 hX (je_op or_mod (je_ty cr_int T.n_int (by decide +kernel) (ja_cons (je_op or_add (je_op or_add (je_op or_mul (je_var 5) je_int) (je_op or_mul je_int (je_var 6))) je_int) ja_nil)) je_int)) (js_cons (js_set 7 hX (je_op or_mod (je_ty cr_int T.n_int (by decide +kernel) (ja_cons (je_op or_mul (je_var 5) (je_op or_add (je_op or_fd (je_var 5) je_int) je_int)) ja_nil)) je_int)) (js_one (js_app 2 (je_op or_mod (je_op or_fd (je_var 7) je_int) (je_ix hX (je_var 1) (je_var 6)))))))) (js_one (js_ret (je_var 2))))))))) sem_law_digits
abbrev s_law_cell : Stmt := topS 11
theorem sc_law_cell : FnScope N_law_cell ["script", "k"] (defScope s_law_cell) := ⟨rfl, rfl, rfl, by decide +kernel, rfl, by decide +kernel, by decide +kernel⟩
theorem ca_law_cell (T : Tx K w mg cl) {f : Addr} {fd : FuncData} (D : Df K mg "_law_cell" s_law_cell f fd) : Ca P w K mg base cl 1 "_law_cell" ["script", "k"] g_law_cell :=
  ca_def D sc_law_cell len_law_cell okt_law_cell (D.fn.binds (fun _ _ _ _ _ _ us hl => match us, hl with | [_, _], _ => rfl)) (kb_of D.fn (fun _ _ _ _ _ _ us hl => match us, hl with | [_, _], _ => rfl)) (fun cdv A outer s H E hr hX =>
  (js_cons (js_if (jt_cmp or_lt (je_var 1) (je_b cr_len T.n_len PySem.boot_len (ja_cons (je_var 0) ja_nil)))
  (js_one (js_ret (je_ix hX (je_var 0) (je_var 1))))
  js_nil) (js_cons (js_set 2 hX je_int) (js_cons (js_for PassesOwn.never hX (ji_it (je_var 0)) (jg_name 3 hX)
  (js_one (js_set 2 hX (je_op or_mod (je_ty cr_int T.n_int (by decide +kernel) (ja_cons (je_op or_add (je_op or_mul (je_var 2) je_int) (je_op or_mod (je_ty cr_int T.n_int (by decide +kernel) (ja_cons (je_var 3) ja_nil)) je_int)) ja_nil)) je_int)))) (js_one (js_ret (je_op or_mod (je_ty cr_int T.n_int (by decide +kernel) (ja_cons (je_op or_mul (je_op or_mul (je_op or_add (je_var 2) je_int) (je_op or_add (je_var 1) je_int)) je_int) ja_nil)) je_int))))))) sem_law_cell
abbrev s_law_state_of : Stmt := topS 16
theorem sc_law_state_of : FnScope N_law_state_of ["kinds", "many", "height", "row"] (defScope s_law_state_of) := ⟨rfl, rfl, rfl, by decide +kernel, rfl, by decide +kernel, by decide +kernel⟩
theorem ca_law_state_of (T : Tx K w mg cl) {f : Addr} {fd : FuncData} (D : Df K mg "_law_state_of" s_law_state_of f fd) : Ca P w K mg base cl 1 "_law_state_of" ["kinds", "many", "height", "row"] g_law_state_of :=
  ca_def D sc_law_state_of len_law_state_of okt_law_state_of (D.fn.binds (fun _ _ _ _ _ _ us hl => match us, hl with | [_, _, _, _], _ => rfl)) (kb_of D.fn (fun _ _ _ _ _ _ us hl => match us, hl with | [_, _, _, _], _ => rfl)) (fun cdv A outer s H E hr hX =>
  (js_cons (js_own 4 hX (jl_d ja_nil)) (js_cons (js_own 5 hX (jl_d ja_nil)) (js_cons (js_for PassesOwn.never hX (ji_range1 gwf_s T.n_range (ja_cons (je_var 1) ja_nil)) (jg_name 6 hX)
  (js_cons (js_set 7 hX (je_ty cr_int T.n_int (by decide +kernel) (ja_cons (je_ix hX (je_var 3) (je_op or_fd (je_var 6) je_int)) ja_nil))) (js_cons (js_for PassesOwn.never hX (ji_range1 gwf_s T.n_range (ja_cons (je_op or_mod (je_ty cr_int T.n_int (by decide +kernel) (ja_cons (je_var 6) ja_nil)) je_int) ja_nil)) (jg_name 8 hX)
  (js_one (js_set 7 hX (je_op or_fd (je_var 7) je_int)))) (js_one (js_app 4 (je_ix hX (je_op or_add (je_var 0) (je_l (jl_d (ja_cons je_str ja_nil)))) (je_op or_mod (je_ty cr_int T.n_int (by decide +kernel) (ja_cons (je_var 7) ja_nil)) je_int))))))) (js_cons (js_for PassesOwn.never hX (ji_range1 gwf_s T.n_range (ja_cons (je_var 2) ja_nil)) (jg_name 6 hX)
  (js_cons (js_set 7 hX (je_ty cr_int T.n_int (by decide +kernel) (ja_cons (je_ix hX (je_var 3) (je_op or_add je_int (je_op or_fd (je_var 6) je_int))) ja_nil))) (js_cons (js_for PassesOwn.never hX (ji_range1 gwf_s T.n_range (ja_cons (je_op or_mod (je_ty cr_int T.n_int (by decide +kernel) (ja_cons (je_var 6) ja_nil)) je_int) ja_nil)) (jg_name 8 hX)
  (js_one (js_set 7 hX (je_op or_fd (je_var 7) je_int)))) (js_one (js_app 5 (je_ix hX (je_var 0) (je_op or_mod (je_ty cr_int T.n_int (by decide +kernel) (ja_cons (je_var 7) ja_nil)) je_int))))))) (js_one (js_ret (je_tup (ja_cons (je_ty cr_tup T.n_tuple (by decide +kernel) (ja_cons (je_var 4) ja_nil)) (ja_cons (je_ty cr_tup T.n_tuple (by decide +kernel) (ja_cons (je_var 5) ja_nil)) ja_nil)))))))))) sem_law_state_of
abbrev s_law_merged_entry : Stmt := topS 20
theorem sc_law_merged_entry : FnScope N_law_merged_entry ["one", "two"] (defScope s_law_merged_entry) := ⟨rfl, rfl, rfl, by decide +kernel, rfl, by decide +kernel, by decide +kernel⟩
theorem ca_law_merged_entry (T : Tx K w mg cl) {f : Addr} {fd : FuncData} (D : Df K mg "_law_merged_entry" s_law_merged_entry f fd) : Ca P w K mg base cl 1 "_law_merged_entry" ["one", "two"] g_law_merged_entry :=
  ca_def D sc_law_merged_entry len_law_merged_entry okt_law_merged_entry (D.fn.binds (fun _ _ _ _ _ _ us hl => match us, hl with | [_, _], _ => rfl)) (kb_of D.fn (fun _ _ _ _ _ _ us hl => match us, hl with | [_, _], _ => rfl)) (fun cdv A outer s H E hr hX =>
  (js_cons (js_if (jt_cmp (or_eq hX) (je_var 0) (je_var 1))
  (js_one (js_ret (je_var 0)))
  js_nil) (js_one (js_ret (je_ix hX (je_l (jl_d (ja_cons je_str (ja_cons je_str ja_nil)))) (je_ty cr_int T.n_int (by decide +kernel) (ja_cons (je_cmp (or_in hX) je_str (je_l (jl_d (ja_cons (je_var 0) (ja_cons (je_var 1) ja_nil))))) ja_nil))))))) sem_law_merged_entry
abbrev s_law_merged : Stmt := topS 21
theorem sc_law_merged : FnScope N_law_merged ["one", "two"] (defScope s_law_merged) := ⟨rfl, rfl, rfl, by decide +kernel, rfl, by decide +kernel, by decide +kernel⟩
theorem ca_law_merged (T : Tx K w mg cl) (C_law_merged_entry : Ca P w K mg base cl 1 "_law_merged_entry" ["one", "two"] g_law_merged_entry) {f : Addr} {fd : FuncData} (D : Df K mg "_law_merged" s_law_merged f fd) : Ca P w K mg base cl 2 "_law_merged" ["one", "two"] g_law_merged :=
  ca_def D sc_law_merged len_law_merged okt_law_merged (D.fn.binds (fun _ _ _ _ _ _ us hl => match us, hl with | [_, _], _ => rfl)) (kb_of D.fn (fun _ _ _ _ _ _ us hl => match us, hl with | [_, _], _ => rfl)) (fun cdv A outer s H E hr hX =>
  (js_cons (js_setLc 2 [("k", 3)] hX (ji_range1 gwf_r T.n_range (ja_cons (je_b cr_len T.n_len PySem.boot_len (ja_cons (je_ix hX (je_var 0) je_int) ja_nil)) ja_nil)) (by rfl) (fun _ _ _ _ _ => (jg_name 3 (XS.blk hX))) (fun _ _ _ _ _ => jts_nil) (fun _ _ _ _ _ => (jc C_law_merged_entry hr (ja_cons (je_ix (XS.blk hX) (je_ix (XS.blk hX) (je_var 0) je_int) (je_var 3)) (ja_cons (je_ix (XS.blk hX) (je_ix (XS.blk hX) (je_var 1) je_int) (je_var 3)) ja_nil))))) (js_one (js_ret (je_tup (ja_cons (je_ty cr_tup T.n_tuple (by decide +kernel) (ja_cons (je_var 2) ja_nil)) (ja_cons (je_ty cr_tup T.n_tuple (by decide +kernel) (ja_cons (je_l (jl_lc [("k", 3)] hX (ji_range1 gwf_r T.n_range (ja_cons (je_b cr_len T.n_len PySem.boot_len (ja_cons (je_ix hX (je_var 0) je_int) ja_nil)) ja_nil)) (by rfl) (fun _ _ _ _ _ => (jg_name 3 (XS.blk hX))) (fun _ _ _ _ _ => jts_nil) (fun _ _ _ _ _ => (jc C_law_merged_entry hr (ja_cons (je_ix (XS.blk hX) (je_ix (XS.blk hX) (je_var 0) je_int) (je_var 3)) (ja_cons (je_ix (XS.blk hX) (je_ix (XS.blk hX) (je_var 1) je_int) (je_var 3)) ja_nil)))))) ja_nil)) ja_nil))))))) sem_law_merged
abbrev s_law_raised : Stmt := topS 18
theorem sc_law_raised : FnScope N_law_raised ["state", "digits"] (defScope s_law_raised) := ⟨rfl, rfl, rfl, by decide +kernel, rfl, by decide +kernel, by decide +kernel⟩
theorem ca_law_raised (T : Tx K w mg cl) {f : Addr} {fd : FuncData} (D : Df K mg "_law_raised" s_law_raised f fd) : Ca P w K mg base cl 1 "_law_raised" ["state", "digits"] g_law_raised :=
  ca_def D sc_law_raised len_law_raised okt_law_raised (D.fn.binds (fun _ _ _ _ _ _ us hl => match us, hl with | [_, _], _ => rfl)) (kb_of D.fn (fun _ _ _ _ _ _ us hl => match us, hl with | [_, _], _ => rfl)) (fun cdv A outer s H E hr hX =>
  (js_cons (js_own 2 hX (jl_d ja_nil)) (js_cons (js_for PassesOwn.never hX (ji_range1 gwf_s T.n_range (ja_cons je_int ja_nil)) (jg_name 3 hX)
  (js_cons (js_own 4 hX (jl_ty crl_list T.n_list (by decide +kernel) (ja_cons (je_ix hX (je_var 0) (je_var 3)) ja_nil))) (js_cons (js_for PassesOwn.never hX (ji_range1 gwf_s T.n_range (ja_cons (je_b cr_len T.n_len PySem.boot_len (ja_cons (je_var 4) ja_nil)) ja_nil)) (jg_name 5 hX)
  (js_cons (js_set 6 hX (je_ix hX (je_var 1) (je_op or_add (je_op or_mulX je_int (je_var 3)) (je_var 5)))) (js_one (js_if (jt_w (jw_and (jt_cmp or_ge (je_var 6) je_int) (jw_and1 (jt_cmp (or_ne hX) (je_ix hX (je_var 4) (je_var 5)) je_str))))
  (js_one (js_put 4 (je_ix hX (je_l (jl_d (ja_cons je_str (ja_cons je_str ja_nil)))) (je_ty cr_int T.n_int (by decide +kernel) (ja_cons (je_and (je_cmp (or_eq hX) (je_var 6) je_int) (je_and1 (je_cmp (or_eq hX) (je_var 3) je_int))) ja_nil))) (je_var 5)))
  js_nil)))) (js_one (js_app 2 (je_ty cr_tup T.n_tuple (by decide +kernel) (ja_cons (je_var 4) ja_nil))))))) (js_one (js_ret (je_tup (ja_cons (je_ix hX (je_var 2) je_int) (ja_cons (je_ix hX (je_var 2) je_int) ja_nil)))))))) sem_law_raised
abbrev s_law_resized : Stmt := topS 24
theorem sc_law_resized : FnScope N_law_resized ["state", "deed"] (defScope s_law_resized) := ⟨rfl, rfl, rfl, by decide +kernel, rfl, by decide +kernel, by decide +kernel⟩
theorem ca_law_resized (T : Tx K w mg cl) {f : Addr} {fd : FuncData} (D : Df K mg "_law_resized" s_law_resized f fd) : Ca P w K mg base cl 1 "_law_resized" ["state", "deed"] g_law_resized :=
  ca_def D sc_law_resized len_law_resized okt_law_resized (D.fn.binds (fun _ _ _ _ _ _ us hl => match us, hl with | [_, _], _ => rfl)) (kb_of D.fn (fun _ _ _ _ _ _ us hl => match us, hl with | [_, _], _ => rfl)) (fun cdv A outer s H E hr hX =>
  (js_cons (js_if (jt_cmp (or_eq hX) (je_var 1) je_int)
  (js_one (js_ret (je_tup (ja_cons (je_op or_add (je_ix hX (je_var 0) je_int) (je_tup (ja_cons je_str ja_nil))) (ja_cons (je_ix hX (je_var 0) je_int) ja_nil)))))
  js_nil) (js_cons (js_if (jt_cmp (or_eq hX) (je_var 1) je_int)
  (js_one (js_ret (je_tup (ja_cons (je_ix hX (je_var 0) je_int) (ja_cons (je_op or_add (je_ix hX (je_var 0) je_int) (je_tup (ja_cons je_str ja_nil))) ja_nil)))))
  js_nil) (js_cons (js_if (jt_cmp (or_eq hX) (je_var 1) je_int)
  (js_one (js_ret (je_tup (ja_cons (je_sl (je_ix hX (je_var 0) je_int) jo_none (jo_some (je_op or_sub (je_b cr_len T.n_len PySem.boot_len (ja_cons (je_ix hX (je_var 0) je_int) ja_nil)) je_int))) (ja_cons (je_ix hX (je_var 0) je_int) ja_nil)))))
  js_nil) (js_one (js_ret (je_tup (ja_cons (je_ix hX (je_var 0) je_int) (ja_cons (je_sl (je_ix hX (je_var 0) je_int) jo_none (jo_some (je_op or_sub (je_b cr_len T.n_len PySem.boot_len (ja_cons (je_ix hX (je_var 0) je_int) ja_nil)) je_int))) ja_nil))))))))) sem_law_resized
abbrev s_law_same_state : Stmt := topS 15
theorem sc_law_same_state : FnScope N_law_same_state ["told", "due"] (defScope s_law_same_state) := ⟨rfl, rfl, rfl, by decide +kernel, rfl, by decide +kernel, by decide +kernel⟩
theorem ca_law_same_state (T : Tx K w mg cl) {f : Addr} {fd : FuncData} (D : Df K mg "_law_same_state" s_law_same_state f fd) : Ca P w K mg base cl 1 "_law_same_state" ["told", "due"] g_law_same_state :=
  ca_def D sc_law_same_state len_law_same_state okt_law_same_state (D.fn.binds (fun _ _ _ _ _ _ us hl => match us, hl with | [_, _], _ => rfl)) (kb_of D.fn (fun _ _ _ _ _ _ us hl => match us, hl with | [_, _], _ => rfl)) (fun cdv A outer s H E hr hX =>
  (js_cons (js_if (jt_w (jw_or (jt_not (jt_v (je_isi (T := "tuple") (je_var 0) T.n_isinstance T.n_tuple (by decide +kernel)))) (jw_or1 (jt_cmp (or_ne hX) (je_b cr_len T.n_len PySem.boot_len (ja_cons (je_var 0) ja_nil)) je_int))))
  (js_one (js_ret je_bl))
  js_nil) (js_cons (js_for PassesOwn.never hX (ji_range1 gwf_s T.n_range (ja_cons je_int ja_nil)) (jg_name 2 hX)
  (js_cons (js_if (jt_w (jw_or (jt_not (jt_v (je_isi (T := "tuple") (je_ix hX (je_var 0) (je_var 2)) T.n_isinstance T.n_tuple (by decide +kernel)))) (jw_or1 (jt_cmp (or_ne hX) (je_b cr_len T.n_len PySem.boot_len (ja_cons (je_ix hX (je_var 0) (je_var 2)) ja_nil)) (je_b cr_len T.n_len PySem.boot_len (ja_cons (je_ix hX (je_var 1) (je_var 2)) ja_nil))))))
  (js_one (js_ret je_bl))
  js_nil) (js_one (js_for PassesOwn.never hX (ji_range1 gwf_s T.n_range (ja_cons (je_b cr_len T.n_len PySem.boot_len (ja_cons (je_ix hX (je_var 1) (je_var 2)) ja_nil)) ja_nil)) (jg_name 3 hX)
  (js_one (js_if (jt_w (jw_or (jt_not (jt_v (je_isi (T := "str") (je_ix hX (je_ix hX (je_var 0) (je_var 2)) (je_var 3)) T.n_isinstance T.n_str (by decide +kernel)))) (jw_or1 (jt_cmp (or_ne hX) (je_ix hX (je_ix hX (je_var 0) (je_var 2)) (je_var 3)) (je_ix hX (je_ix hX (je_var 1) (je_var 2)) (je_var 3))))))
  (js_one (js_ret je_bl))
  js_nil)))))) (js_one (js_ret je_bl))))) sem_law_same_state
abbrev s_law_entry_fits : Stmt := topS 13
theorem sc_law_entry_fits : FnScope N_law_entry_fits ["one", "two"] (defScope s_law_entry_fits) := ⟨rfl, rfl, rfl, by decide +kernel, rfl, by decide +kernel, by decide +kernel⟩
theorem ca_law_entry_fits (T : Tx K w mg cl) {f : Addr} {fd : FuncData} (D : Df K mg "_law_entry_fits" s_law_entry_fits f fd) : Ca P w K mg base cl 1 "_law_entry_fits" ["one", "two"] g_law_entry_fits :=
  ca_def D sc_law_entry_fits len_law_entry_fits okt_law_entry_fits (D.fn.binds (fun _ _ _ _ _ _ us hl => match us, hl with | [_, _], _ => rfl)) (kb_of D.fn (fun _ _ _ _ _ _ us hl => match us, hl with | [_, _], _ => rfl)) (fun cdv A outer s H E hr hX =>
  (js_one (js_ret (je_or (je_cmp (or_eq hX) (je_var 0) (je_var 1)) (je_or (je_cmp (or_eq hX) (je_var 1) je_str) (je_or1 (je_and (je_cmp (or_eq hX) (je_var 1) je_str) (je_and1 (je_cmp (or_ne hX) (je_var 0) je_str))))))))) sem_law_entry_fits
abbrev s_law_state_fits : Stmt := topS 14
theorem sc_law_state_fits : FnScope N_law_state_fits ["one", "two"] (defScope s_law_state_fits) := ⟨rfl, rfl, rfl, by decide +kernel, rfl, by decide +kernel, by decide +kernel⟩
theorem ca_law_state_fits (T : Tx K w mg cl) (C_law_entry_fits : Ca P w K mg base cl 1 "_law_entry_fits" ["one", "two"] g_law_entry_fits) {f : Addr} {fd : FuncData} (D : Df K mg "_law_state_fits" s_law_state_fits f fd) : Ca P w K mg base cl 2 "_law_state_fits" ["one", "two"] g_law_state_fits :=
  ca_def D sc_law_state_fits len_law_state_fits okt_law_state_fits (D.fn.binds (fun _ _ _ _ _ _ us hl => match us, hl with | [_, _], _ => rfl)) (kb_of D.fn (fun _ _ _ _ _ _ us hl => match us, hl with | [_, _], _ => rfl)) (fun cdv A outer s H E hr hX =>
  (js_cons (js_if (jt_w (jw_or (jt_cmp (or_ne hX) (je_b cr_len T.n_len PySem.boot_len (ja_cons (je_ix hX (je_var 0) je_int) ja_nil)) (je_b cr_len T.n_len PySem.boot_len (ja_cons (je_ix hX (je_var 1) je_int) ja_nil))) (jw_or1 (jt_cmp (or_ne hX) (je_b cr_len T.n_len PySem.boot_len (ja_cons (je_ix hX (je_var 0) je_int) ja_nil)) (je_b cr_len T.n_len PySem.boot_len (ja_cons (je_ix hX (je_var 1) je_int) ja_nil))))))
  (js_one (js_ret je_bl))
  js_nil) (js_cons (js_for PassesOwn.never hX (ji_range1 gwf_s T.n_range (ja_cons je_int ja_nil)) (jg_name 2 hX)
  (js_one (js_for PassesOwn.never hX (ji_range1 gwf_s T.n_range (ja_cons (je_b cr_len T.n_len PySem.boot_len (ja_cons (je_ix hX (je_var 0) (je_var 2)) ja_nil)) ja_nil)) (jg_name 3 hX)
  (js_one (js_if (jt_not (jt_v (jc C_law_entry_fits hr (ja_cons (je_ix hX (je_ix hX (je_var 0) (je_var 2)) (je_var 3)) (ja_cons (je_ix hX (je_ix hX (je_var 1) (je_var 2)) (je_var 3)) ja_nil)))))
  (js_one (js_ret je_bl))
  js_nil))))) (js_one (js_ret je_bl))))) sem_law_state_fits
abbrev s_law_mingled : Stmt := topS 17
theorem sc_law_mingled : FnScope N_law_mingled ["one", "two", "digits"] (defScope s_law_mingled) := ⟨rfl, rfl, rfl, by decide +kernel, rfl, by decide +kernel, by decide +kernel⟩
theorem ca_law_mingled (T : Tx K w mg cl) {f : Addr} {fd : FuncData} (D : Df K mg "_law_mingled" s_law_mingled f fd) : Ca P w K mg base cl 1 "_law_mingled" ["one", "two", "digits"] g_law_mingled :=
  ca_def D sc_law_mingled len_law_mingled okt_law_mingled (D.fn.binds (fun _ _ _ _ _ _ us hl => match us, hl with | [_, _, _], _ => rfl)) (kb_of D.fn (fun _ _ _ _ _ _ us hl => match us, hl with | [_, _, _], _ => rfl)) (fun cdv A outer s H E hr hX =>
  (js_cons (js_own 3 hX (jl_d ja_nil)) (js_cons (js_for PassesOwn.never hX (ji_range1 gwf_s T.n_range (ja_cons je_int ja_nil)) (jg_name 4 hX)
  (js_one (js_app 3 (je_ty cr_tup T.n_tuple (by decide +kernel) (ja_cons (je_l (jl_lc [("k", 5)] hX (ji_range1 gwf_r T.n_range (ja_cons (je_b cr_len T.n_len PySem.boot_len (ja_cons (je_ix hX (je_var 0) (je_var 4)) ja_nil)) ja_nil)) (by rfl) (fun _ _ _ _ _ => (jg_name 5 (XS.blk hX))) (fun _ _ _ _ _ => jts_nil) (fun _ _ _ _ _ => (je_ix (XS.blk hX) (je_l (jl_d (ja_cons (je_ix (XS.blk hX) (je_ix (XS.blk hX) (je_var 0) (je_var 4)) (je_var 5)) (ja_cons (je_ix (XS.blk hX) (je_ix (XS.blk hX) (je_var 1) (je_var 4)) (je_var 5)) ja_nil)))) (je_ty cr_int T.n_int (by decide +kernel) (ja_cons (je_cmp (or_eq (XS.blk hX)) (je_ix (XS.blk hX) (je_var 2) (je_op or_add (je_op or_mulX je_int (je_var 4)) (je_var 5))) je_int) ja_nil)))))) ja_nil))))) (js_one (js_ret (je_tup (ja_cons (je_ix hX (je_var 3) je_int) (ja_cons (je_ix hX (je_var 3) je_int) ja_nil)))))))) sem_law_mingled
abbrev s_law_lowered : Stmt := topS 19
theorem sc_law_lowered : FnScope N_law_lowered ["state", "other", "part", "at"] (defScope s_law_lowered) := ⟨rfl, rfl, rfl, by decide +kernel, rfl, by decide +kernel, by decide +kernel⟩
theorem ca_law_lowered (T : Tx K w mg cl) {f : Addr} {fd : FuncData} (D : Df K mg "_law_lowered" s_law_lowered f fd) : Ca P w K mg base cl 1 "_law_lowered" ["state", "other", "part", "at"] g_law_lowered :=
  ca_def D sc_law_lowered len_law_lowered okt_law_lowered (D.fn.binds (fun _ _ _ _ _ _ us hl => match us, hl with | [_, _, _, _], _ => rfl)) (kb_of D.fn (fun _ _ _ _ _ _ us hl => match us, hl with | [_, _, _, _], _ => rfl)) (fun cdv A outer s H E hr hX =>
  (js_cons (js_if (jt_cmp (or_eq hX) (je_b cr_len T.n_len PySem.boot_len (ja_cons (je_ix hX (je_var 0) (je_var 2)) ja_nil)) je_int)
  (js_one (js_ret (je_var 0)))
  js_nil) (js_cons (js_set 4 hX (je_op or_mod (je_ty cr_int T.n_int (by decide +kernel) (ja_cons (je_var 3) ja_nil)) (je_b cr_len T.n_len PySem.boot_len (ja_cons (je_ix hX (je_var 0) (je_var 2)) ja_nil)))) (js_cons (js_set 5 hX (je_op or_add (je_op or_add (je_sl (je_ix hX (je_var 0) (je_var 2)) jo_none (jo_some (je_var 4))) (je_tup (ja_cons (je_ix hX (je_ix hX (je_var 1) (je_var 2)) (je_var 4)) ja_nil))) (je_sl (je_ix hX (je_var 0) (je_var 2)) (jo_some (je_op or_add (je_var 4) je_int)) jo_none))) (js_one (js_ret (je_ix hX (je_l (jl_d (ja_cons (je_tup (ja_cons (je_var 5) (ja_cons (je_ix hX (je_var 0) je_int) ja_nil))) (ja_cons (je_tup (ja_cons (je_ix hX (je_var 0) je_int) (ja_cons (je_var 5) ja_nil))) ja_nil)))) (je_var 2)))))))) sem_law_lowered
abbrev s_law_shown : Stmt := topS 22
theorem sc_law_shown : FnScope N_law_shown ["state", "form"] (defScope s_law_shown) := ⟨rfl, rfl, rfl, by decide +kernel, rfl, by decide +kernel, by decide +kernel⟩
theorem ca_law_shown (T : Tx K w mg cl) {f : Addr} {fd : FuncData} (D : Df K mg "_law_shown" s_law_shown f fd) : Ca P w K mg base cl 1 "_law_shown" ["state", "form"] g_law_shown :=
  ca_def D sc_law_shown len_law_shown okt_law_shown (D.fn.binds (fun _ _ _ _ _ _ us hl => match us, hl with | [_, _], _ => rfl)) (kb_of D.fn (fun _ _ _ _ _ _ us hl => match us, hl with | [_, _], _ => rfl)) (fun cdv A outer s H E hr hX =>
  (js_one (js_ret (je_ix hX (je_l (jl_d (ja_cons (je_tup (ja_cons (je_ix hX (je_var 0) je_int) (ja_cons (je_ix hX (je_var 0) je_int) ja_nil))) (ja_cons (je_l (jl_d (ja_cons (je_l (jl_ty crl_list T.n_list (by decide +kernel) (ja_cons (je_ix hX (je_var 0) je_int) ja_nil))) (ja_cons (je_l (jl_ty crl_list T.n_list (by decide +kernel) (ja_cons (je_ix hX (je_var 0) je_int) ja_nil))) ja_nil)))) (ja_cons (je_tup (ja_cons (je_ix hX (je_var 0) je_int) (ja_cons (je_l (jl_ty crl_list T.n_list (by decide +kernel) (ja_cons (je_ix hX (je_var 0) je_int) ja_nil))) ja_nil))) ja_nil))))) (je_var 1))))) sem_law_shown
abbrev s_frozen : Stmt := topS 1
theorem sc_frozen : FnScope N_frozen ["value"] (defScope s_frozen) := ⟨rfl, rfl, rfl, by decide +kernel, rfl, by decide +kernel, by decide +kernel⟩
theorem ca_frozen_step (T : Tx K w mg cl) {k : Nat} {gg : List TD → Option TD} {f : Addr} {fd : FuncData} (D : Df K mg "frozen" s_frozen f fd) (CC : Ca P w K mg base cl k "frozen" ["value"] gg) : Ca P w K mg base cl (k + 1) "frozen" ["value"] (gF 1 N_frozen.length (F_frozen gg)) :=
  ca_def D sc_frozen gF_len gF_ok (D.fn.binds (fun _ _ _ _ _ _ us hl => match us, hl with | [_], _ => rfl)) (kb_of D.fn (fun _ _ _ _ _ _ us hl => match us, hl with | [_], _ => rfl)) (fun cdv A outer s H E hr hX =>
  (js_cons (js_if (jt_v (je_isi2 (T1 := "list") (T2 := "tuple") (je_var 0) T.n_isinstance T.n_list T.n_tuple (by decide +kernel) (by decide +kernel)))
  (js_one (js_ret (je_ty cr_tup T.n_tuple (by decide +kernel) (ja_cons (je_l (jl_lc [("part", 1)] hX (jir_it (je_var 0)) (by rfl) (fun _ _ _ _ _ => (jg_name 1 (XS.blk hX))) (fun _ _ _ _ _ => jts_nil) (fun _ _ _ _ _ => (jc CC hr (ja_cons (je_var 1) ja_nil) (hkj := Nat.le_refl _))))) ja_nil))))
  js_nil) (js_one (js_ret (je_var 0))))) gF_sem
theorem ca_frozen (T : Tx K w mg cl) {f : Addr} {fd : FuncData} (D : Df K mg "frozen" s_frozen f fd) : Ca P w K mg base cl 9 "frozen" ["value"] g_frozen := by
  have h : ∀ n, Ca P w K mg base cl (n + 0) "frozen" ["value"] (gN_frozen n) := by
    intro n
    induction n with
    | zero => exact (ca_none D (D.fn.binds (fun _ _ _ _ _ _ us hl => match us, hl with | [_], _ => rfl)) (kb_of D.fn (fun _ _ _ _ _ _ us hl => match us, hl with | [_], _ => rfl))).mono (Nat.zero_le _)
    | succ n ih => exact (ca_frozen_step (k := n + 0) T D ih).mono (by omega)
  exact h 9
abbrev s_merged_entry : Stmt := topS 7
theorem sc_merged_entry : FnScope N_merged_entry ["one", "two"] (defScope s_merged_entry) := ⟨rfl, rfl, rfl, by decide +kernel, rfl, by decide +kernel, by decide +kernel⟩
theorem fn_merged_entry (T : Tx K w mg cl) {f : Addr} {fd : FuncData} (D : Df K mg "merged_entry" s_merged_entry f fd) : FnOk P w K mg base (L2.CX P w) 1 f fd ["one", "two"] (spX ⟨K, cl⟩ g_merged_entry) :=
  ok_defX D.fn sc_merged_entry gFX_len (fun cdv A outer s H E hr hX tk hp =>
  (jz_cons (jz_if (jxt_p (jt_cmp (or_eq hX) (je_var 0) (je_var 1)))
  (jz_one (jz_ret (jx_e (je_var 0))))
  jz_nil) (jz_cons (jz_if (jxt_p (jt_cmp (or_in hX) (je_gl T.g_UNSET) (je_tup (ja_cons (je_var 0) (ja_cons (je_var 1) ja_nil)))))
  (jz_one (jz_ret (jx_e (je_gl T.g_UNSET))))
  jz_nil) (jz_one (jz_ret (jx_e (je_gl T.g_MIXED))))))) gFX_sem
theorem ca_merged_entry (T : Tx K w mg cl) {f : Addr} {fd : FuncData} (D : Df K mg "merged_entry" s_merged_entry f fd) : CaX P w K mg base cl 1 "merged_entry" ["one", "two"] g_merged_entry :=
  ⟨⟨f, fd, fn_merged_entry T D, D.gm, D.fn.kp, D.fn.binds (fun _ _ _ _ _ _ us hl => match us, hl with | [_, _], _ => rfl)⟩⟩
abbrev s_merged_entries : Stmt := topS 6
theorem sc_merged_entries : FnScope N_merged_entries ["one", "two"] (defScope s_merged_entries) := ⟨rfl, rfl, rfl, by decide +kernel, rfl, by decide +kernel, by decide +kernel⟩
theorem fn_merged_entries (T : Tx K w mg cl) (C_merged_entry : CaX P w K mg base cl 1 "merged_entry" ["one", "two"] g_merged_entry) {f : Addr} {fd : FuncData} (D : Df K mg "merged_entries" s_merged_entries f fd) : FnOk P w K mg base (L2.CX P w) 2 f fd ["one", "two"] (spX ⟨K, cl⟩ g_merged_entries) :=
  ok_defX D.fn sc_merged_entries gFX_len (fun cdv A outer s H E hr hX tk hp =>
  (jz_one (jz_ret (jx_tupOf T.n_tuple (jx_lcF [("entries", 2)] hX (ji_zipN T.n_zip (je_var 0) (je_var 1)) (by rfl) (fun _ _ _ _ _ => (jg_name 2 (XS.blk hX))) (fun _ _ _ _ _ => jxts_nil) (fun _ _ _ _ _ => (jx_callS C_merged_entry takes0 hr (jx_e (je_var 2))))) (by decide +kernel))))) gFX_sem
theorem ca_merged_entries (T : Tx K w mg cl) (C_merged_entry : CaX P w K mg base cl 1 "merged_entry" ["one", "two"] g_merged_entry) {f : Addr} {fd : FuncData} (D : Df K mg "merged_entries" s_merged_entries f fd) : CaX P w K mg base cl 2 "merged_entries" ["one", "two"] g_merged_entries :=
  ⟨⟨f, fd, fn_merged_entries T C_merged_entry D, D.gm, D.fn.kp, D.fn.binds (fun _ _ _ _ _ _ us hl => match us, hl with | [_, _], _ => rfl)⟩⟩
abbrev s_merged : Stmt := topS 5
theorem sc_merged : FnScope N_merged ["one", "two"] (defScope s_merged) := ⟨rfl, rfl, rfl, by decide +kernel, rfl, by decide +kernel, by decide +kernel⟩
theorem fn_merged (T : Tx K w mg cl) (C_frozen : Ca P w K mg base cl 9 "frozen" ["value"] g_frozen) (C_merged_entries : CaX P w K mg base cl 2 "merged_entries" ["one", "two"] g_merged_entries) {f : Addr} {fd : FuncData} (D : Df K mg "merged" s_merged f fd) : FnOk P w K mg base (L2.CX P w) 10 f fd ["one", "two"] (spX ⟨K, cl⟩ g_merged) :=
  ok_defX D.fn sc_merged gFX_len (fun cdv A outer s H E hr hX tk hp =>
  (jz_one (jz_ret (jx_tupOf T.n_tuple (jx_lcF [("parts", 2)] hX (ji_zipN T.n_zip (jc C_frozen hr (ja_cons (je_var 0) ja_nil)) (jc C_frozen hr (ja_cons (je_var 1) ja_nil))) (by rfl) (fun _ _ _ _ _ => (jg_name 2 (XS.blk hX))) (fun _ _ _ _ _ => jxts_nil) (fun _ _ _ _ _ => (jx_callS C_merged_entries takes0 hr (jx_e (je_var 2))))) (by decide +kernel))))) gFX_sem
theorem ca_merged (T : Tx K w mg cl) (C_frozen : Ca P w K mg base cl 9 "frozen" ["value"] g_frozen) (C_merged_entries : CaX P w K mg base cl 2 "merged_entries" ["one", "two"] g_merged_entries) {f : Addr} {fd : FuncData} (D : Df K mg "merged" s_merged f fd) : CaX P w K mg base cl 10 "merged" ["one", "two"] g_merged :=
  ⟨⟨f, fd, fn_merged T C_frozen C_merged_entries D, D.gm, D.fn.kp, D.fn.binds (fun _ _ _ _ _ _ us hl => match us, hl with | [_, _], _ => rfl)⟩⟩
abbrev s_fits_entry : Stmt := topS 9
theorem sc_fits_entry : FnScope N_fits_entry ["one", "two"] (defScope s_fits_entry) := ⟨rfl, rfl, rfl, by decide +kernel, rfl, by decide +kernel, by decide +kernel⟩
theorem fn_fits_entry (T : Tx K w mg cl) {f : Addr} {fd : FuncData} (D : Df K mg "fits_entry" s_fits_entry f fd) : FnOk P w K mg base (L2.CX P w) 1 f fd ["one", "two"] (spX ⟨K, cl⟩ g_fits_entry) :=
  ok_defX D.fn sc_fits_entry gFX_len (fun cdv A outer s H E hr hX tk hp =>
  (jz_one (jz_ret (jx_e (je_or (je_cmp (or_eq hX) (je_var 0) (je_var 1)) (je_or (je_cmp (or_eq hX) (je_var 1) (je_gl T.g_UNSET)) (je_or1 (je_and (je_cmp (or_eq hX) (je_var 1) (je_gl T.g_MIXED)) (je_and1 (je_cmp (or_ne hX) (je_var 0) (je_gl T.g_UNSET))))))))))) gFX_sem
theorem ca_fits_entry (T : Tx K w mg cl) {f : Addr} {fd : FuncData} (D : Df K mg "fits_entry" s_fits_entry f fd) : CaX P w K mg base cl 1 "fits_entry" ["one", "two"] g_fits_entry :=
  ⟨⟨f, fd, fn_fits_entry T D, D.gm, D.fn.kp, D.fn.binds (fun _ _ _ _ _ _ us hl => match us, hl with | [_, _], _ => rfl)⟩⟩
abbrev s_fits : Stmt := topS 8
theorem sc_fits : FnScope N_fits ["one", "two"] (defScope s_fits) := ⟨rfl, rfl, rfl, by decide +kernel, rfl, by decide +kernel, by decide +kernel⟩
theorem fn_fits (T : Tx K w mg cl) (C_frozen : Ca P w K mg base cl 9 "frozen" ["value"] g_frozen) (C_fits_entry : CaX P w K mg base cl 1 "fits_entry" ["one", "two"] g_fits_entry) {f : Addr} {fd : FuncData} (D : Df K mg "fits" s_fits f fd) : FnOk P w K mg base (L2.CX P w) 10 f fd ["one", "two"] (spX ⟨K, cl⟩ g_fits) :=
  ok_defX D.fn sc_fits gFX_len (fun cdv A outer s H E hr hX tk hp =>
  (jz_cons (jz_for hp hX (ji_zip T.n_zip (jc C_frozen hr (ja_cons (je_var 0) ja_nil)) (jc C_frozen hr (ja_cons (je_var 1) ja_nil))) (jg_tup hX (jgs_cons (jg_name 2 hX) (jgs_cons (jg_name 3 hX) jgs_nil)))
  (jz_cons (jz_if (jxt_p (jt_cmp (or_ne hX) (je_b cr_len T.n_len PySem.boot_len (ja_cons (je_var 2) ja_nil)) (je_b cr_len T.n_len PySem.boot_len (ja_cons (je_var 3) ja_nil))))
  (jz_one (jz_ret (jx_e je_bl)))
  jz_nil) (jz_one (jz_if (jxt_not (jxt_v (jx_b (cr_allB hX) T.n_all (by decide +kernel) (jxa_cons (jx_lcF [("entries", 4)] hX (ji_zipN T.n_zip (je_var 2) (je_var 3)) (by rfl) (fun _ _ _ _ _ => (jg_name 4 (XS.blk hX))) (fun _ _ _ _ _ => jxts_nil) (fun _ _ _ _ _ => (jx_callS C_fits_entry takes0 hr (jx_e (je_var 4))))) jxa_nil))))
  (jz_one (jz_ret (jx_e je_bl)))
  jz_nil)))) (jz_one (jz_ret (jx_e je_bl))))) gFX_sem
theorem ca_fits (T : Tx K w mg cl) (C_frozen : Ca P w K mg base cl 9 "frozen" ["value"] g_frozen) (C_fits_entry : CaX P w K mg base cl 1 "fits_entry" ["one", "two"] g_fits_entry) {f : Addr} {fd : FuncData} (D : Df K mg "fits" s_fits f fd) : CaX P w K mg base cl 10 "fits" ["one", "two"] g_fits :=
  ⟨⟨f, fd, fn_fits T C_frozen C_fits_entry D, D.gm, D.fn.kp, D.fn.binds (fun _ _ _ _ _ _ us hl => match us, hl with | [_, _], _ => rfl)⟩⟩
abbrev s_law_pair_asked : Stmt := topS 23
theorem sc_law_pair_asked : FnScope N_law_pair_asked ["one", "two", "form"] (defScope s_law_pair_asked) := ⟨rfl, rfl, rfl, by decide +kernel, rfl, by decide +kernel, by decide +kernel⟩
theorem fn_law_pair_asked (T : Tx K w mg cl) (C_law_shown : Ca P w K mg base cl 1 "_law_shown" ["state", "form"] g_law_shown) (C_law_same_state : Ca P w K mg base cl 1 "_law_same_state" ["told", "due"] g_law_same_state) (C_law_merged : Ca P w K mg base cl 2 "_law_merged" ["one", "two"] g_law_merged) (C_law_state_fits : Ca P w K mg base cl 2 "_law_state_fits" ["one", "two"] g_law_state_fits) (C_merged : CaX P w K mg base cl 10 "merged" ["one", "two"] g_merged) (CK_merged_two_one : CaXK P w K mg base cl 10 "merged" ["one", "two"] ["two", "one"] [1, 0] g_merged) (C_fits : CaX P w K mg base cl 10 "fits" ["one", "two"] g_fits) (CK_fits_two_one : CaXK P w K mg base cl 10 "fits" ["one", "two"] ["two", "one"] [1, 0] g_fits) {f : Addr} {fd : FuncData} (D : Df K mg "_law_pair_asked" s_law_pair_asked f fd) : FnOk P w K mg base (L2.CX P w) 11 f fd ["one", "two", "form"] (spX ⟨K, cl⟩ g_law_pair_asked) :=
  ok_defX D.fn sc_law_pair_asked gFX_len (fun cdv A outer s H E hr hX tk hp =>
  (jz_cons (jz_set 3 hX (jx_e (jc C_law_shown hr (ja_cons (je_var 0) (ja_cons (je_var 2) ja_nil))))) (jz_cons (jz_set 4 hX (jx_e (jc C_law_shown hr (ja_cons (je_var 1) (ja_cons (je_op or_mod (je_ty cr_int T.n_int (by decide +kernel) (ja_cons (je_op or_add (je_var 2) je_int) ja_nil)) je_int) ja_nil))))) (jz_cons (jz_if (jxt_p (jt_w (jw_and (jt_cmp (or_eq hX) (je_b cr_len T.n_len PySem.boot_len (ja_cons (je_ix hX (je_var 0) je_int) ja_nil)) (je_b cr_len T.n_len PySem.boot_len (ja_cons (je_ix hX (je_var 1) je_int) ja_nil))) (jw_and1 (jt_cmp (or_eq hX) (je_b cr_len T.n_len PySem.boot_len (ja_cons (je_ix hX (je_var 0) je_int) ja_nil)) (je_b cr_len T.n_len PySem.boot_len (ja_cons (je_ix hX (je_var 1) je_int) ja_nil)))))))
  (jz_cons (jz_set 5 hX (jx_call C_merged tk hr (jxa_cons (jx_e (je_var 3)) (jxa_cons (jx_e (je_var 4)) jxa_nil)))) (jz_cons (jz_if (jxt_p (jt_cmp (or_eq hX) (je_var 2) je_int))
  (jz_one (jz_set 5 hX (jx_callK CK_merged_two_one tk hr (jxk_cons (jx_e (je_var 4)) (jxk_cons (jx_e (je_var 3)) jxk_nil)))))
  jz_nil) (jz_one (jz_if (jxt_p (jt_not (jt_v (jc C_law_same_state hr (ja_cons (je_var 5) (ja_cons (jc C_law_merged hr (ja_cons (je_var 0) (ja_cons (je_var 1) ja_nil))) ja_nil))))))
  (jz_one (jz_ret (jx_e je_bl)))
  jz_nil))))
  jz_nil) (jz_cons (jz_set 6 hX (jx_call C_fits tk hr (jxa_cons (jx_e (je_var 3)) (jxa_cons (jx_e (je_var 4)) jxa_nil)))) (jz_cons (jz_if (jxt_p (jt_cmp (or_eq hX) (je_var 2) je_int))
  (jz_one (jz_set 6 hX (jx_callK CK_fits_two_one tk hr (jxk_cons (jx_e (je_var 4)) (jxk_cons (jx_e (je_var 3)) jxk_nil)))))
  jz_nil) (jz_cons (jz_if (jxt_p (jt_w (jw_or (jt_not (jt_v (je_isi (T := "bool") (je_var 6) T.n_isinstance T.n_bool (by decide +kernel)))) (jw_or1 (jt_cmp (or_ne hX) (je_var 6) (jc C_law_state_fits hr (ja_cons (je_var 0) (ja_cons (je_var 1) ja_nil))))))))
  (jz_one (jz_ret (jx_e je_bl)))
  jz_nil) (jz_one (jz_ret (jx_e (je_and (je_cmp (or_eq hX) (je_var 3) (jc C_law_shown hr (ja_cons (je_var 0) (ja_cons (je_var 2) ja_nil)))) (je_and1 (je_cmp (or_eq hX) (je_var 4) (jc C_law_shown hr (ja_cons (je_var 1) (ja_cons (je_op or_mod (je_ty cr_int T.n_int (by decide +kernel) (ja_cons (je_op or_add (je_var 2) je_int) ja_nil)) je_int) ja_nil)))))))))))))))) gFX_sem
theorem ca_law_pair_asked (T : Tx K w mg cl) (C_law_shown : Ca P w K mg base cl 1 "_law_shown" ["state", "form"] g_law_shown) (C_law_same_state : Ca P w K mg base cl 1 "_law_same_state" ["told", "due"] g_law_same_state) (C_law_merged : Ca P w K mg base cl 2 "_law_merged" ["one", "two"] g_law_merged) (C_law_state_fits : Ca P w K mg base cl 2 "_law_state_fits" ["one", "two"] g_law_state_fits) (C_merged : CaX P w K mg base cl 10 "merged" ["one", "two"] g_merged) (CK_merged_two_one : CaXK P w K mg base cl 10 "merged" ["one", "two"] ["two", "one"] [1, 0] g_merged) (C_fits : CaX P w K mg base cl 10 "fits" ["one", "two"] g_fits) (CK_fits_two_one : CaXK P w K mg base cl 10 "fits" ["one", "two"] ["two", "one"] [1, 0] g_fits) {f : Addr} {fd : FuncData} (D : Df K mg "_law_pair_asked" s_law_pair_asked f fd) : CaX P w K mg base cl 11 "_law_pair_asked" ["one", "two", "form"] g_law_pair_asked :=
  ⟨⟨f, fd, fn_law_pair_asked T C_law_shown C_law_same_state C_law_merged C_law_state_fits C_merged CK_merged_two_one C_fits CK_fits_two_one D, D.gm, D.fn.kp, D.fn.binds (fun _ _ _ _ _ _ us hl => match us, hl with | [_, _, _], _ => rfl)⟩⟩
abbrev s_law : Stmt := topS 25
theorem sc_law : FnScope N_law ["script"] (defScope s_law) := ⟨rfl, rfl, rfl, by decide +kernel, rfl, by decide +kernel, by decide +kernel⟩
theorem ok_law (T : Tx K w mg cl) (C_law_digits : Ca P w K mg base cl 1 "_law_digits" ["cell", "sizes"] g_law_digits) (C_law_cell : Ca P w K mg base cl 1 "_law_cell" ["script", "k"] g_law_cell) (C_law_state_of : Ca P w K mg base cl 1 "_law_state_of" ["kinds", "many", "height", "row"] g_law_state_of) (C_law_merged : Ca P w K mg base cl 2 "_law_merged" ["one", "two"] g_law_merged) (C_law_raised : Ca P w K mg base cl 1 "_law_raised" ["state", "digits"] g_law_raised) (C_law_resized : Ca P w K mg base cl 1 "_law_resized" ["state", "deed"] g_law_resized) (C_law_same_state : Ca P w K mg base cl 1 "_law_same_state" ["told", "due"] g_law_same_state) (C_law_state_fits : Ca P w K mg base cl 2 "_law_state_fits" ["one", "two"] g_law_state_fits) (C_law_mingled : Ca P w K mg base cl 1 "_law_mingled" ["one", "two", "digits"] g_law_mingled) (C_law_lowered : Ca P w K mg base cl 1 "_law_lowered" ["state", "other", "part", "at"] g_law_lowered) (C_law_pair_asked : CaX P w K mg base cl 11 "_law_pair_asked" ["one", "two", "form"] g_law_pair_asked) (C_merged : CaX P w K mg base cl 10 "merged" ["one", "two"] g_merged) (C_fits : CaX P w K mg base cl 10 "fits" ["one", "two"] g_fits) {f : Addr} {fd : FuncData} (D : Df K mg "law" s_law f fd) : FnOk P w K mg base (L2.CX P w) 12 f fd ["script"] (spL K) :=
  fn_law (ok_defX D.fn sc_law gFX_len (fun cdv A outer s H E hr hX tk hp =>
  (jz_cons (jz_set 1 hX (jx_e (jc C_law_digits hr (ja_cons (jc C_law_cell hr (ja_cons (je_var 0) (ja_cons je_int ja_nil))) (ja_cons (je_l (jl_d (ja_cons je_int (ja_cons je_int (ja_cons je_int (ja_cons je_int (ja_cons je_int (ja_cons je_int ja_nil)))))))) ja_nil))))) (jz_cons (jz_set 2 hX (jx_e (je_l (jl_d (ja_cons je_str (ja_cons je_str (ja_cons je_str (ja_cons je_str (ja_cons je_str (ja_cons je_str (ja_cons je_str (ja_cons je_str ja_nil)))))))))))) (jz_cons (jz_set 3 hX (jx_e (je_op or_add (je_l (jl_d (ja_cons je_str (ja_cons je_str ja_nil)))) (je_l (jl_lc [("k", 4)] hX (ji_range1 gwf_r T.n_range (ja_cons je_int ja_nil)) (by rfl) (fun _ _ _ _ _ => (jg_name 4 (XS.blk hX))) (fun _ _ _ _ _ => jts_nil) (fun _ _ _ _ _ => (je_ix (XS.blk hX) (je_var 2) (je_op or_mod (je_ty cr_int T.n_int (by decide +kernel) (ja_cons (je_op or_add (je_ix (XS.blk hX) (je_var 1) je_int) (je_var 4)) ja_nil)) je_int)))))))) (jz_cons (jz_set 5 hX (jx_lst jxa_nil)) (jz_cons (jz_for hp hX (ji_range1 gwf_s T.n_range (ja_cons je_int ja_nil)) (jg_name 4 hX)
  (jz_one (jz_do (jx_lm PySem.F.slot_list_append PySem.F.type_list_append mt_append lm_app (jx_h (jh_var 5)) (jxa_cons (jx_e (jc C_law_state_of hr (ja_cons (je_var 3) (ja_cons (je_ix hX (je_var 1) je_int) (ja_cons (je_ix hX (je_var 1) je_int) (ja_cons (jc C_law_digits hr (ja_cons (jc C_law_cell hr (ja_cons (je_var 0) (ja_cons (je_op or_add je_int (je_var 4)) ja_nil))) (ja_cons (je_l (jl_d (ja_cons je_int (ja_cons je_int (ja_cons je_int (ja_cons je_int ja_nil)))))) ja_nil))) ja_nil)))))) jxa_nil))))) (jz_cons (jz_set 6 hX (jx_ix hX (jx_h (jh_var 5)) (jx_e je_int))) (jz_cons (jz_set 7 hX (jx_callP C_law_mingled hr (jxa_cons (jx_ix hX (jx_h (jh_var 5)) (jx_e je_int)) (jxa_cons (jx_e (je_var 6)) (jxa_cons (jx_e (jc C_law_digits hr (ja_cons (jc C_law_cell hr (ja_cons (je_var 0) (ja_cons je_int ja_nil))) (ja_cons (je_op or_mulX (je_l (jl_d (ja_cons je_int ja_nil))) je_int) ja_nil)))) jxa_nil))))) (jz_cons (jz_set 8 hX (jx_e (jc C_law_merged hr (ja_cons (je_var 6) (ja_cons (je_var 7) ja_nil))))) (jz_cons (jz_set 9 hX (jx_e (jc C_law_digits hr (ja_cons (jc C_law_cell hr (ja_cons (je_var 0) (ja_cons je_int ja_nil))) (ja_cons (je_op or_add (je_op or_mulX (je_l (jl_d (ja_cons je_int ja_nil))) je_int) (je_l (jl_d (ja_cons je_int (ja_cons je_int (ja_cons je_int ja_nil)))))) ja_nil))))) (jz_cons (jz_set 10 hX (jx_e (jc C_law_raised hr (ja_cons (je_var 8) (ja_cons (je_sl (je_var 9) jo_none (jo_some je_int)) ja_nil))))) (jz_cons (jz_if (jxt_p (jt_cmp or_gt (je_ix hX (je_var 9) je_int) je_int))
  (jz_one (jz_set 10 hX (jx_callP C_law_lowered hr (jxa_cons (jx_e (je_var 10)) (jxa_cons (jx_ix hX (jx_lst (jxa_cons (jx_e (je_var 6)) (jxa_cons (jx_e (je_var 7)) (jxa_cons (jx_ix hX (jx_h (jh_var 5)) (jx_e je_int)) jxa_nil)))) (jx_e (je_op or_sub (je_ix hX (je_var 9) je_int) je_int))) (jxa_cons (jx_e (je_ix hX (je_var 9) je_int)) (jxa_cons (jx_e (je_ix hX (je_var 9) je_int)) jxa_nil)))))))
  jz_nil) (jz_cons (jz_set 11 hX (jx_e (jc C_law_merged hr (ja_cons (je_var 8) (ja_cons (je_var 10) ja_nil))))) (jz_cons (jz_set 12 hX (jx_e (je_l (jl_d (ja_cons (je_var 6) (ja_cons (je_var 7) (ja_cons (je_var 8) (ja_cons (je_var 10) (ja_cons (je_var 11) (ja_cons (jc C_law_merged hr (ja_cons (je_var 6) (ja_cons (je_var 10) ja_nil))) ja_nil)))))))))) (jz_cons (jz_for hp hX (ji_range1 gwf_s T.n_range (ja_cons je_int ja_nil)) (jg_name 4 hX)
  (jz_one (jz_if (jxt_not (jxt_v (jx_call C_law_pair_asked tk hr (jxa_cons (jx_e (je_ix hX (je_var 12) (je_op or_fd (je_var 4) je_int))) (jxa_cons (jx_e (je_ix hX (je_var 12) (je_op or_mod (je_ty cr_int T.n_int (by decide +kernel) (ja_cons (je_var 4) ja_nil)) je_int))) (jxa_cons (jx_e (je_op or_mod (je_ty cr_int T.n_int (by decide +kernel) (ja_cons (je_op or_add (je_ix hX (je_var 1) je_int) (je_var 4)) ja_nil)) je_int)) jxa_nil))))))
  (jz_one (jz_ret (jx_e je_bl)))
  jz_nil))) (jz_cons (jz_for hp hX (ji_range1 gwf_s T.n_range (ja_cons je_int ja_nil)) (jg_name 4 hX)
  (jz_cons (jz_set 13 hX (jx_e (jc C_law_resized hr (ja_cons (je_ix hX (je_var 12) (je_var 4)) (ja_cons (je_ix hX (je_var 1) je_int) ja_nil))))) (jz_one (jz_if (jxt_w (jxw_or (jxt_not (jxt_v (jx_call C_law_pair_asked tk hr (jxa_cons (jx_e (je_ix hX (je_var 12) (je_ix hX (je_var 1) je_int))) (jxa_cons (jx_e (je_var 13)) (jxa_cons (jx_e je_int) jxa_nil)))))) (jxw_or1 (jxt_not (jxt_v (jx_call C_law_pair_asked tk hr (jxa_cons (jx_e (je_var 13)) (jxa_cons (jx_e (je_ix hX (je_var 12) (je_ix hX (je_var 1) je_int))) (jxa_cons (jx_e je_int) jxa_nil)))))))))
  (jz_one (jz_ret (jx_e je_bl)))
  jz_nil)))) (jz_cons (jz_set 14 hX (jx_call C_merged tk hr (jxa_cons (jx_call C_merged tk hr (jxa_cons (jx_e (je_var 6)) (jxa_cons (jx_e (je_var 7)) jxa_nil))) (jxa_cons (jx_e (je_var 10)) jxa_nil)))) (jz_cons (jz_if (jxt_w (jxw_or (jxt_p (jt_not (jt_v (jc C_law_same_state hr (ja_cons (je_var 14) (ja_cons (je_var 11) ja_nil)))))) (jxw_or1 (jxt_not (jxt_v (jx_callP C_law_same_state hr (jxa_cons (jx_call C_merged tk hr (jxa_cons (jx_e (je_var 6)) (jxa_cons (jx_call C_merged tk hr (jxa_cons (jx_e (je_var 7)) (jxa_cons (jx_e (je_var 10)) jxa_nil))) jxa_nil))) (jxa_cons (jx_e (je_var 11)) jxa_nil))))))))
  (jz_one (jz_ret (jx_e je_bl)))
  jz_nil) (jz_cons (jz_set 15 hX (jx_call C_fits tk hr (jxa_cons (jx_e (je_var 14)) (jxa_cons (jx_e (je_var 10)) jxa_nil)))) (jz_one (jz_ret (jx_and (jx_cmp (or_eq hX) (jx_e (je_var 15)) (jx_and (jx_call C_fits tk hr (jxa_cons (jx_e (je_var 6)) (jxa_cons (jx_e (je_var 10)) jxa_nil))) (jx_and1 (jx_call C_fits tk hr (jxa_cons (jx_e (je_var 7)) (jxa_cons (jx_e (je_var 10)) jxa_nil)))))) (jx_and1 (jx_e (je_cmp (or_eq hX) (je_var 15) (jc C_law_state_fits hr (ja_cons (je_var 11) (ja_cons (je_var 10) ja_nil)))))))))))))))))))))))))))) gFX_sem) law_true
end
theorem all_mk {l : PySem.W.OpenLaw} {w : World} {K : PySem.W.Frag} {h : Heap} {mg : Str → Option Value} {fa : Addr} (X : K.In h) (G : h.Ns mainGlobals mg) (hfa : mg "law" = some (.ref fa))
    {f1 f2 f3 f4 f5 f6 f7 f8 f9 f10 f11 f12 f13 f14 f15 f16 f17 f18 f19 f20 f21 : Addr} {od1 an1 od2 an2 od3 an3 od4 an4 od5 an5 od6 an6 od7 an7 od8 an8 od9 an9 od10 an10 od11 an11 od12 an12 od13 an13 od14 an14 od15 an15 od16 an16 od17 an17 od18 an18 od19 an19 od20 an20 od21 an21 : Option Addr} {sl1 sl2 sl3 sl4 sl5 sl6 sl7 sl8 sl9 sl10 sl11 sl12 sl13 sl14 sl15 sl16 sl17 sl18 sl19 sl20 sl21 : Array (Option Value)} {oc1 kV1 dc1 pm1 cd1 ct1 oc2 kV2 dc2 pm2 cd2 ct2 oc3 kV3 dc3 pm3 cd3 ct3 oc4 kV4 dc4 pm4 cd4 ct4 oc5 kV5 dc5 pm5 cd5 ct5 oc6 kV6 dc6 pm6 cd6 ct6 oc7 kV7 dc7 pm7 cd7 ct7 oc8 kV8 dc8 pm8 cd8 ct8 oc9 kV9 dc9 pm9 cd9 ct9 oc10 kV10 dc10 pm10 cd10 ct10 oc11 kV11 dc11 pm11 cd11 ct11 oc12 kV12 dc12 pm12 cd12 ct12 oc13 kV13 dc13 pm13 cd13 ct13 oc14 kV14 dc14 pm14 cd14 ct14 oc15 kV15 dc15 pm15 cd15 ct15 oc16 kV16 dc16 pm16 cd16 ct16 oc17 kV17 dc17 pm17 cd17 ct17 oc18 kV18 dc18 pm18 cd18 ct18 oc19 kV19 dc19 pm19 cd19 ct19 oc20 kV20 dc20 pm20 cd20 ct20 oc21 kV21 dc21 pm21 cd21 ct21 : Value}
    (a1 : PySem.W.nsIn K mainGlobals "_law_digits" = some (some (.ref f1)))
    (l1 : K.lookup f1 = some ⟨oc1, od1, .func (PySem.W.fnOf "_law_digits" "_law_digits" (defArgs s_law_digits) (defBody s_law_digits) (defScope s_law_digits) .none kV1 dc1 pm1 an1 cd1 ct1), sl1⟩) (c1 : PySem.W.codeIn K cd1 "_law_digits" = true) (k1 : PySem.W.keepIn K (.ref f1) = true)
    (a2 : PySem.W.nsIn K mainGlobals "_law_cell" = some (some (.ref f2)))
    (l2 : K.lookup f2 = some ⟨oc2, od2, .func (PySem.W.fnOf "_law_cell" "_law_cell" (defArgs s_law_cell) (defBody s_law_cell) (defScope s_law_cell) .none kV2 dc2 pm2 an2 cd2 ct2), sl2⟩) (c2 : PySem.W.codeIn K cd2 "_law_cell" = true) (k2 : PySem.W.keepIn K (.ref f2) = true)
    (a3 : PySem.W.nsIn K mainGlobals "_law_state_of" = some (some (.ref f3)))
    (l3 : K.lookup f3 = some ⟨oc3, od3, .func (PySem.W.fnOf "_law_state_of" "_law_state_of" (defArgs s_law_state_of) (defBody s_law_state_of) (defScope s_law_state_of) .none kV3 dc3 pm3 an3 cd3 ct3), sl3⟩) (c3 : PySem.W.codeIn K cd3 "_law_state_of" = true) (k3 : PySem.W.keepIn K (.ref f3) = true)
    (a4 : PySem.W.nsIn K mainGlobals "_law_merged_entry" = some (some (.ref f4)))
    (l4 : K.lookup f4 = some ⟨oc4, od4, .func (PySem.W.fnOf "_law_merged_entry" "_law_merged_entry" (defArgs s_law_merged_entry) (defBody s_law_merged_entry) (defScope s_law_merged_entry) .none kV4 dc4 pm4 an4 cd4 ct4), sl4⟩) (c4 : PySem.W.codeIn K cd4 "_law_merged_entry" = true) (k4 : PySem.W.keepIn K (.ref f4) = true)
    (a5 : PySem.W.nsIn K mainGlobals "_law_merged" = some (some (.ref f5)))
    (l5 : K.lookup f5 = some ⟨oc5, od5, .func (PySem.W.fnOf "_law_merged" "_law_merged" (defArgs s_law_merged) (defBody s_law_merged) (defScope s_law_merged) .none kV5 dc5 pm5 an5 cd5 ct5), sl5⟩) (c5 : PySem.W.codeIn K cd5 "_law_merged" = true) (k5 : PySem.W.keepIn K (.ref f5) = true)
    (a6 : PySem.W.nsIn K mainGlobals "_law_raised" = some (some (.ref f6)))
    (l6 : K.lookup f6 = some ⟨oc6, od6, .func (PySem.W.fnOf "_law_raised" "_law_raised" (defArgs s_law_raised) (defBody s_law_raised) (defScope s_law_raised) .none kV6 dc6 pm6 an6 cd6 ct6), sl6⟩) (c6 : PySem.W.codeIn K cd6 "_law_raised" = true) (k6 : PySem.W.keepIn K (.ref f6) = true)
    (a7 : PySem.W.nsIn K mainGlobals "_law_resized" = some (some (.ref f7)))
    (l7 : K.lookup f7 = some ⟨oc7, od7, .func (PySem.W.fnOf "_law_resized" "_law_resized" (defArgs s_law_resized) (defBody s_law_resized) (defScope s_law_resized) .none kV7 dc7 pm7 an7 cd7 ct7), sl7⟩) (c7 : PySem.W.codeIn K cd7 "_law_resized" = true) (k7 : PySem.W.keepIn K (.ref f7) = true)
    (a8 : PySem.W.nsIn K mainGlobals "_law_same_state" = some (some (.ref f8)))
    (l8 : K.lookup f8 = some ⟨oc8, od8, .func (PySem.W.fnOf "_law_same_state" "_law_same_state" (defArgs s_law_same_state) (defBody s_law_same_state) (defScope s_law_same_state) .none kV8 dc8 pm8 an8 cd8 ct8), sl8⟩) (c8 : PySem.W.codeIn K cd8 "_law_same_state" = true) (k8 : PySem.W.keepIn K (.ref f8) = true)
    (a9 : PySem.W.nsIn K mainGlobals "_law_entry_fits" = some (some (.ref f9)))
    (l9 : K.lookup f9 = some ⟨oc9, od9, .func (PySem.W.fnOf "_law_entry_fits" "_law_entry_fits" (defArgs s_law_entry_fits) (defBody s_law_entry_fits) (defScope s_law_entry_fits) .none kV9 dc9 pm9 an9 cd9 ct9), sl9⟩) (c9 : PySem.W.codeIn K cd9 "_law_entry_fits" = true) (k9 : PySem.W.keepIn K (.ref f9) = true)
    (a10 : PySem.W.nsIn K mainGlobals "_law_state_fits" = some (some (.ref f10)))
    (l10 : K.lookup f10 = some ⟨oc10, od10, .func (PySem.W.fnOf "_law_state_fits" "_law_state_fits" (defArgs s_law_state_fits) (defBody s_law_state_fits) (defScope s_law_state_fits) .none kV10 dc10 pm10 an10 cd10 ct10), sl10⟩) (c10 : PySem.W.codeIn K cd10 "_law_state_fits" = true) (k10 : PySem.W.keepIn K (.ref f10) = true)
    (a11 : PySem.W.nsIn K mainGlobals "_law_mingled" = some (some (.ref f11)))
    (l11 : K.lookup f11 = some ⟨oc11, od11, .func (PySem.W.fnOf "_law_mingled" "_law_mingled" (defArgs s_law_mingled) (defBody s_law_mingled) (defScope s_law_mingled) .none kV11 dc11 pm11 an11 cd11 ct11), sl11⟩) (c11 : PySem.W.codeIn K cd11 "_law_mingled" = true) (k11 : PySem.W.keepIn K (.ref f11) = true)
    (a12 : PySem.W.nsIn K mainGlobals "_law_lowered" = some (some (.ref f12)))
    (l12 : K.lookup f12 = some ⟨oc12, od12, .func (PySem.W.fnOf "_law_lowered" "_law_lowered" (defArgs s_law_lowered) (defBody s_law_lowered) (defScope s_law_lowered) .none kV12 dc12 pm12 an12 cd12 ct12), sl12⟩) (c12 : PySem.W.codeIn K cd12 "_law_lowered" = true) (k12 : PySem.W.keepIn K (.ref f12) = true)
    (a13 : PySem.W.nsIn K mainGlobals "_law_shown" = some (some (.ref f13)))
    (l13 : K.lookup f13 = some ⟨oc13, od13, .func (PySem.W.fnOf "_law_shown" "_law_shown" (defArgs s_law_shown) (defBody s_law_shown) (defScope s_law_shown) .none kV13 dc13 pm13 an13 cd13 ct13), sl13⟩) (c13 : PySem.W.codeIn K cd13 "_law_shown" = true) (k13 : PySem.W.keepIn K (.ref f13) = true)
    (a14 : PySem.W.nsIn K mainGlobals "frozen" = some (some (.ref f14)))
    (l14 : K.lookup f14 = some ⟨oc14, od14, .func (PySem.W.fnOf "frozen" "frozen" (defArgs s_frozen) (defBody s_frozen) (defScope s_frozen) .none kV14 dc14 pm14 an14 cd14 ct14), sl14⟩) (c14 : PySem.W.codeIn K cd14 "frozen" = true) (k14 : PySem.W.keepIn K (.ref f14) = true)
    (a15 : PySem.W.nsIn K mainGlobals "merged_entry" = some (some (.ref f15)))
    (l15 : K.lookup f15 = some ⟨oc15, od15, .func (PySem.W.fnOf "merged_entry" "merged_entry" (defArgs s_merged_entry) (defBody s_merged_entry) (defScope s_merged_entry) .none kV15 dc15 pm15 an15 cd15 ct15), sl15⟩) (c15 : PySem.W.codeIn K cd15 "merged_entry" = true) (k15 : PySem.W.keepIn K (.ref f15) = true)
    (a16 : PySem.W.nsIn K mainGlobals "merged_entries" = some (some (.ref f16)))
    (l16 : K.lookup f16 = some ⟨oc16, od16, .func (PySem.W.fnOf "merged_entries" "merged_entries" (defArgs s_merged_entries) (defBody s_merged_entries) (defScope s_merged_entries) .none kV16 dc16 pm16 an16 cd16 ct16), sl16⟩) (c16 : PySem.W.codeIn K cd16 "merged_entries" = true) (k16 : PySem.W.keepIn K (.ref f16) = true)
    (a17 : PySem.W.nsIn K mainGlobals "merged" = some (some (.ref f17)))
    (l17 : K.lookup f17 = some ⟨oc17, od17, .func (PySem.W.fnOf "merged" "merged" (defArgs s_merged) (defBody s_merged) (defScope s_merged) .none kV17 dc17 pm17 an17 cd17 ct17), sl17⟩) (c17 : PySem.W.codeIn K cd17 "merged" = true) (k17 : PySem.W.keepIn K (.ref f17) = true)
    (a18 : PySem.W.nsIn K mainGlobals "fits_entry" = some (some (.ref f18)))
    (l18 : K.lookup f18 = some ⟨oc18, od18, .func (PySem.W.fnOf "fits_entry" "fits_entry" (defArgs s_fits_entry) (defBody s_fits_entry) (defScope s_fits_entry) .none kV18 dc18 pm18 an18 cd18 ct18), sl18⟩) (c18 : PySem.W.codeIn K cd18 "fits_entry" = true) (k18 : PySem.W.keepIn K (.ref f18) = true)
    (a19 : PySem.W.nsIn K mainGlobals "fits" = some (some (.ref f19)))
    (l19 : K.lookup f19 = some ⟨oc19, od19, .func (PySem.W.fnOf "fits" "fits" (defArgs s_fits) (defBody s_fits) (defScope s_fits) .none kV19 dc19 pm19 an19 cd19 ct19), sl19⟩) (c19 : PySem.W.codeIn K cd19 "fits" = true) (k19 : PySem.W.keepIn K (.ref f19) = true)
    (a20 : PySem.W.nsIn K mainGlobals "_law_pair_asked" = some (some (.ref f20)))
    (l20 : K.lookup f20 = some ⟨oc20, od20, .func (PySem.W.fnOf "_law_pair_asked" "_law_pair_asked" (defArgs s_law_pair_asked) (defBody s_law_pair_asked) (defScope s_law_pair_asked) .none kV20 dc20 pm20 an20 cd20 ct20), sl20⟩) (c20 : PySem.W.codeIn K cd20 "_law_pair_asked" = true) (k20 : PySem.W.keepIn K (.ref f20) = true)
    (a21 : PySem.W.nsIn K mainGlobals "law" = some (some (.ref f21)))
    (l21 : K.lookup f21 = some ⟨oc21, od21, .func (PySem.W.fnOf "law" "law" (defArgs s_law) (defBody s_law) (defScope s_law) .none kV21 dc21 pm21 an21 cd21 ct21), sl21⟩) (c21 : PySem.W.codeIn K cd21 "law" = true) (k21 : PySem.W.keepIn K (.ref f21) = true)
    (z0 : PySem.W.nsIn K mainGlobals "all" = some none)
    (z1 : PySem.W.nsIn K mainGlobals "bool" = some none)
    (z2 : PySem.W.nsIn K mainGlobals "int" = some none)
    (z3 : PySem.W.nsIn K mainGlobals "isinstance" = some none)
    (z4 : PySem.W.nsIn K mainGlobals "len" = some none)
    (z5 : PySem.W.nsIn K mainGlobals "list" = some none)
    (z6 : PySem.W.nsIn K mainGlobals "range" = some none)
    (z7 : PySem.W.nsIn K mainGlobals "str" = some none)
    (z8 : PySem.W.nsIn K mainGlobals "tuple" = some none)
    (z9 : PySem.W.nsIn K mainGlobals "zip" = some none)
    {gt0 : Tok} (y0 : PySem.W.nsIn K mainGlobals "MIXED" = some (some (.str "mixed" gt0)))
    {gt1 : Tok} (y1 : PySem.W.nsIn K mainGlobals "UNSET" = some (some (.str "unset" gt1)))
    : ∃ fd : FuncData, (∀ (s : Shared) (v : Value), BindsTo s fd ⟨[v], []⟩ [("script", v)]) ∧ ∀ base : Heap, K.In base → base.Ns mainGlobals mg → FnOk l.prog w K mg base (L2.CX l.prog w) 12 fa fd ["script"] (spL K) := by
  have e := hfa.symm.trans (PySem.W.mg_of X G a21)
  cases e
  have T : Tx K w mg (fun _ => none) := ⟨trivial, PySem.W.mg_none_of X G z0, PySem.W.mg_none_of X G z1, PySem.W.mg_none_of X G z2, PySem.W.mg_none_of X G z3, PySem.W.mg_none_of X G z4, PySem.W.mg_none_of X G z5, PySem.W.mg_none_of X G z6, PySem.W.mg_none_of X G z7, PySem.W.mg_none_of X G z8, PySem.W.mg_none_of X G z9, ⟨⟨_, .str "mixed", PySem.W.mg_of X G y0, ⟨_, rfl⟩, .str _⟩⟩, ⟨⟨_, .str "unset", PySem.W.mg_of X G y1, ⟨_, rfl⟩, .str _⟩⟩⟩
  have D1 : Df K mg "_law_digits" s_law_digits _ _ := ⟨fun_mk (st := s_law_digits) l1 c1 k1, PySem.W.mg_of X G a1⟩
  have D2 : Df K mg "_law_cell" s_law_cell _ _ := ⟨fun_mk (st := s_law_cell) l2 c2 k2, PySem.W.mg_of X G a2⟩
  have D3 : Df K mg "_law_state_of" s_law_state_of _ _ := ⟨fun_mk (st := s_law_state_of) l3 c3 k3, PySem.W.mg_of X G a3⟩
  have D4 : Df K mg "_law_merged_entry" s_law_merged_entry _ _ := ⟨fun_mk (st := s_law_merged_entry) l4 c4 k4, PySem.W.mg_of X G a4⟩
  have D5 : Df K mg "_law_merged" s_law_merged _ _ := ⟨fun_mk (st := s_law_merged) l5 c5 k5, PySem.W.mg_of X G a5⟩
  have D6 : Df K mg "_law_raised" s_law_raised _ _ := ⟨fun_mk (st := s_law_raised) l6 c6 k6, PySem.W.mg_of X G a6⟩
  have D7 : Df K mg "_law_resized" s_law_resized _ _ := ⟨fun_mk (st := s_law_resized) l7 c7 k7, PySem.W.mg_of X G a7⟩
  have D8 : Df K mg "_law_same_state" s_law_same_state _ _ := ⟨fun_mk (st := s_law_same_state) l8 c8 k8, PySem.W.mg_of X G a8⟩
  have D9 : Df K mg "_law_entry_fits" s_law_entry_fits _ _ := ⟨fun_mk (st := s_law_entry_fits) l9 c9 k9, PySem.W.mg_of X G a9⟩
  have D10 : Df K mg "_law_state_fits" s_law_state_fits _ _ := ⟨fun_mk (st := s_law_state_fits) l10 c10 k10, PySem.W.mg_of X G a10⟩
  have D11 : Df K mg "_law_mingled" s_law_mingled _ _ := ⟨fun_mk (st := s_law_mingled) l11 c11 k11, PySem.W.mg_of X G a11⟩
  have D12 : Df K mg "_law_lowered" s_law_lowered _ _ := ⟨fun_mk (st := s_law_lowered) l12 c12 k12, PySem.W.mg_of X G a12⟩
  have D13 : Df K mg "_law_shown" s_law_shown _ _ := ⟨fun_mk (st := s_law_shown) l13 c13 k13, PySem.W.mg_of X G a13⟩
  have D14 : Df K mg "frozen" s_frozen _ _ := ⟨fun_mk (st := s_frozen) l14 c14 k14, PySem.W.mg_of X G a14⟩
  have D15 : Df K mg "merged_entry" s_merged_entry _ _ := ⟨fun_mk (st := s_merged_entry) l15 c15 k15, PySem.W.mg_of X G a15⟩
  have D16 : Df K mg "merged_entries" s_merged_entries _ _ := ⟨fun_mk (st := s_merged_entries) l16 c16 k16, PySem.W.mg_of X G a16⟩
  have D17 : Df K mg "merged" s_merged _ _ := ⟨fun_mk (st := s_merged) l17 c17 k17, PySem.W.mg_of X G a17⟩
  have D18 : Df K mg "fits_entry" s_fits_entry _ _ := ⟨fun_mk (st := s_fits_entry) l18 c18 k18, PySem.W.mg_of X G a18⟩
  have D19 : Df K mg "fits" s_fits _ _ := ⟨fun_mk (st := s_fits) l19 c19 k19, PySem.W.mg_of X G a19⟩
  have D20 : Df K mg "_law_pair_asked" s_law_pair_asked _ _ := ⟨fun_mk (st := s_law_pair_asked) l20 c20 k20, PySem.W.mg_of X G a20⟩
  have D21 : Df K mg "law" s_law _ _ := ⟨fun_mk (st := s_law) l21 c21 k21, PySem.W.mg_of X G a21⟩
  refine ⟨PySem.W.fnOf "law" "law" (defArgs s_law) (defBody s_law) (defScope s_law) .none kV21 dc21 pm21 an21 cd21 ct21, fun s v => .of_eq rfl, fun base _ _ => ?_⟩
  have C_law_digits := ca_law_digits (P := l.prog) (w := w) (base := base) T D1
  have C_law_cell := ca_law_cell (P := l.prog) (w := w) (base := base) T D2
  have C_law_state_of := ca_law_state_of (P := l.prog) (w := w) (base := base) T D3
  have C_law_merged_entry := ca_law_merged_entry (P := l.prog) (w := w) (base := base) T D4
  have C_law_merged := ca_law_merged (P := l.prog) (w := w) (base := base) T C_law_merged_entry D5
  have C_law_raised := ca_law_raised (P := l.prog) (w := w) (base := base) T D6
  have C_law_resized := ca_law_resized (P := l.prog) (w := w) (base := base) T D7
  have C_law_same_state := ca_law_same_state (P := l.prog) (w := w) (base := base) T D8
  have C_law_entry_fits := ca_law_entry_fits (P := l.prog) (w := w) (base := base) T D9
  have C_law_state_fits := ca_law_state_fits (P := l.prog) (w := w) (base := base) T C_law_entry_fits D10
  have C_law_mingled := ca_law_mingled (P := l.prog) (w := w) (base := base) T D11
  have C_law_lowered := ca_law_lowered (P := l.prog) (w := w) (base := base) T D12
  have C_law_shown := ca_law_shown (P := l.prog) (w := w) (base := base) T D13
  have C_frozen := ca_frozen (P := l.prog) (w := w) (base := base) T D14
  have C_merged_entry := ca_merged_entry (P := l.prog) (w := w) (base := base) T D15
  have C_merged_entries := ca_merged_entries (P := l.prog) (w := w) (base := base) T C_merged_entry D16
  have C_merged := ca_merged (P := l.prog) (w := w) (base := base) T C_frozen C_merged_entries D17
  have CK_merged_two_one : CaXK l.prog w K mg base _ 10 "merged" ["one", "two"] ["two", "one"] [1, 0] g_merged := ⟨⟨_, _, fn_merged (P := l.prog) (w := w) (base := base) T C_frozen C_merged_entries D17, D17.gm, D17.fn.kp, kw_of D17.fn (fun _ _ _ _ _ _ us ws h1 h2 => match us, ws, h1, h2 with | [], [_, _], _, _ => rfl)⟩⟩
  have C_fits_entry := ca_fits_entry (P := l.prog) (w := w) (base := base) T D18
  have C_fits := ca_fits (P := l.prog) (w := w) (base := base) T C_frozen C_fits_entry D19
  have CK_fits_two_one : CaXK l.prog w K mg base _ 10 "fits" ["one", "two"] ["two", "one"] [1, 0] g_fits := ⟨⟨_, _, fn_fits (P := l.prog) (w := w) (base := base) T C_frozen C_fits_entry D19, D19.gm, D19.fn.kp, kw_of D19.fn (fun _ _ _ _ _ _ us ws h1 h2 => match us, ws, h1, h2 with | [], [_, _], _, _ => rfl)⟩⟩
  have C_law_pair_asked := ca_law_pair_asked (P := l.prog) (w := w) (base := base) T C_law_shown C_law_same_state C_law_merged C_law_state_fits C_merged CK_merged_two_one C_fits CK_fits_two_one D20
  exact ok_law (P := l.prog) (w := w) (base := base) T C_law_digits C_law_cell C_law_state_of C_law_merged C_law_raised C_law_resized C_law_same_state C_law_state_fits C_law_mingled C_law_lowered C_law_pair_asked C_merged C_fits D21
end Lw
open PySem PySem.W PyProof.Rows
set_option maxHeartbeats 0 in
theorem PySem.Challenge.cw_quietbroom_k20_merging_holds : PySem.Challenge.rw_quietbroom_k20_merging.Holds := by
  w_on; o_law; k_head; (case hw => w_witness2)
  k_fill
  refine L2.walk_ofB (l := PySem.Challenge.rw_quietbroom_k20_merging) (n := 63) (k := 12) (x := "script") (CX := fun w => L2.CX (PySem.Challenge.rw_quietbroom_k20_merging).prog w) (sp := fun w => Vf.spL _) rfl (by decide) rfl ⟨rfl, by decide, by decide⟩ (fun w h Y => PySem.W.kIn_of Y) ?F (fun _ _ a ns hl hb _ hS => Vf.spL_start ⟨hl, hb⟩ hS) (fun _ H s e s' z => Vf.cx_false H s e s' z)
  case F =>
    intro w mg fa h KX G hmg
    refine' Lw.all_mk KX G hmg ?a1 ?l1 ?c1 ?k1 ?a2 ?l2 ?c2 ?k2 ?a3 ?l3 ?c3 ?k3 ?a4 ?l4 ?c4 ?k4 ?a5 ?l5 ?c5 ?k5 ?a6 ?l6 ?c6 ?k6 ?a7 ?l7 ?c7 ?k7 ?a8 ?l8 ?c8 ?k8 ?a9 ?l9 ?c9 ?k9 ?a10 ?l10 ?c10 ?k10 ?a11 ?l11 ?c11 ?k11 ?a12 ?l12 ?c12 ?k12 ?a13 ?l13 ?c13 ?k13 ?a14 ?l14 ?c14 ?k14 ?a15 ?l15 ?c15 ?k15 ?a16 ?l16 ?c16 ?k16 ?a17 ?l17 ?c17 ?k17 ?a18 ?l18 ?c18 ?k18 ?a19 ?l19 ?c19 ?k19 ?a20 ?l20 ?c20 ?k20 ?a21 ?l21 ?c21 ?k21 ?z0 ?z1 ?z2 ?z3 ?z4 ?z5 ?z6 ?z7 ?z8 ?z9 ?y0 ?y1
    (case a1 => k_is)
    (case l1 => k_is)
    (case c1 => k_is)
    (case k1 => k_is)
    (case a2 => k_is)
    (case l2 => k_is)
    (case c2 => k_is)
    (case k2 => k_is)
    (case a3 => k_is)
    (case l3 => k_is)
    (case c3 => k_is)
    (case k3 => k_is)
    (case a4 => k_is)
    (case l4 => k_is)
    (case c4 => k_is)
    (case k4 => k_is)
    (case a5 => k_is)
    (case l5 => k_is)
    (case c5 => k_is)
    (case k5 => k_is)
    (case a6 => k_is)
    (case l6 => k_is)
    (case c6 => k_is)
    (case k6 => k_is)
    (case a7 => k_is)
    (case l7 => k_is)
    (case c7 => k_is)
    (case k7 => k_is)
    (case a8 => k_is)
    (case l8 => k_is)
    (case c8 => k_is)
    (case k8 => k_is)
    (case a9 => k_is)
    (case l9 => k_is)
    (case c9 => k_is)
    (case k9 => k_is)
    (case a10 => k_is)
    (case l10 => k_is)
    (case c10 => k_is)
    (case k10 => k_is)
    (case a11 => k_is)
    (case l11 => k_is)
    (case c11 => k_is)
    (case k11 => k_is)
    (case a12 => k_is)
    (case l12 => k_is)
    (case c12 => k_is)
    (case k12 => k_is)
    (case a13 => k_is)
    (case l13 => k_is)
    (case c13 => k_is)
    (case k13 => k_is)
    (case a14 => k_is)
    (case l14 => k_is)
    (case c14 => k_is)
    (case k14 => k_is)
    (case a15 => k_is)
    (case l15 => k_is)
    (case c15 => k_is)
    (case k15 => k_is)
    (case a16 => k_is)
    (case l16 => k_is)
    (case c16 => k_is)
    (case k16 => k_is)
    (case a17 => k_is)
    (case l17 => k_is)
    (case c17 => k_is)
    (case k17 => k_is)
    (case a18 => k_is)
    (case l18 => k_is)
    (case c18 => k_is)
    (case k18 => k_is)
    (case a19 => k_is)
    (case l19 => k_is)
    (case c19 => k_is)
    (case k19 => k_is)
    (case a20 => k_is)
    (case l20 => k_is)
    (case c20 => k_is)
    (case k20 => k_is)
    (case a21 => k_is)
    (case l21 => k_is)
    (case c21 => k_is)
    (case k21 => k_is)
    (case z0 => k_is)
    (case z1 => k_is)
    (case z2 => k_is)
    (case z3 => k_is)
    (case z4 => k_is)
    (case z5 => k_is)
    (case z6 => k_is)
    (case z7 => k_is)
    (case z8 => k_is)
    (case z9 => k_is)
    (case y0 => k_is)
    (case y1 => k_is)
