import PyProof.Rows.All
import Wide.All
import OpenK.AllK
import Wide.FinOn
import HandS.Base
import HandS.Call
import HandS.List
import HandS.Exc
import HandS.Lambda
import HandS.Words
import HandS.ExcInit
import HandS.ExcOwn
import KE.KExcIs
import HandS.IsInst
import HandS.EndTab
import HandS.ExcValue
import HandS.Style
import KE.KStateDown
import HandS.Head0
import HandS.Head1
import HandS.Head2
import HandS.HeadEnd
import HandS.HeadHook4
import HandS.ForMost
import HandS.Walk
import HandS.DictComp
import HandS.Wide
import PyProof.ReprLen
import HandS.Star
import HandS.WordsExc
import HandS.Defaults
import PySem.Challenge.RW_stayopen_k00_errors_and_checks
section
set_option Elab.async false
set_option linter.all false
set_option maxRecDepth 100000
set_option maxHeartbeats 4000000
/-! rules of my own over the hand layer: data with dicts, repr of data -/
namespace KZ
open PySem PySem.Spec PyProof.Rows L2

/-- the datum of a key -/
def keyD : Key → PyData
  | .inl i => .int i
  | .inr x => .str x
mutual
/-- v is the datum d, dicts too -/
inductive Dv (K : PySem.W.Frag) (H : Hp) : V → PyData → Prop
  | non : Dv K H .non .none
  | bl (b : Bool) : Dv K H (.bl b) (.bool b)
  | int (i : Int) : Dv K H (.int i) (.int i)
  | str (x : Str) : Dv K H (.str x) (.str x)
  | lst {a : Addr} {xs : List V} {ds : List PyData} : SqL K H a xs → Dvs K H xs ds → Dv K H (.ref a) (.list ds)
  | tup {a : Addr} {xs : List V} {ds : List PyData} : SqT K H a xs → Dvs K H xs ds → Dv K H (.ref a) (.tuple ds)
  | dic {a : Addr} {kvs : List (Key × V)} {ps : List (PyData × PyData)} : Rd H a (.dK kvs) → Dks K H kvs ps → Dv K H (.ref a) (.dict ps)
inductive Dvs (K : PySem.W.Frag) (H : Hp) : List V → List PyData → Prop
  | nil : Dvs K H [] []
  | cons {v : V} {vs : List V} {d : PyData} {ds : List PyData} : Dv K H v d → Dvs K H vs ds → Dvs K H (v :: vs) (d :: ds)
inductive Dks (K : PySem.W.Frag) (H : Hp) : List (Key × V) → List (PyData × PyData) → Prop
  | nil : Dks K H [] []
  | cons {k : Key} {v : V} {kvs : List (Key × V)} {d : PyData} {ps : List (PyData × PyData)} : Dv K H v d → Dks K H kvs ps → Dks K H ((k, v) :: kvs) ((keyD k, d) :: ps)
end

section
variable {X : Cx} {pins : List (Addr × Obj)} {σ : L2.St} {H : Hp} {s : Shared}
def ModsD (h : Heap) : Prop := ∃ o es ep, h.get? sysModules = some o ∧ o.data = .dict es ep
theorem keyD_reads {w : World} {P : Program} {h : Heap} (k : Key) (key : Value) (e : (mixKind P w).is k key = true) : Reads h key (keyD k) [] := by
  rcases keyIs_shape (k := k) (v := key) e with ⟨i, t, rfl, rfl⟩ | ⟨x, t, rfl, rfl⟩
  · exact Reads.int i t
  · exact Reads.str x t
mutual
theorem Dv.reads (I : Inv X pins σ H s) (hm : ModsD s.heap) : ∀ (d : PyData) (v : V) (u : Value), Dv X.K H v d → RelV v u → ∃ as, Reads s.heap u d as ∧ sysModules ∉ as
  | .none, _, _, h, r => by
    cases h; cases r
    exact ⟨_, Reads.none, by simp⟩
  | .bool b, _, _, h, r => by
    cases h; cases r
    exact ⟨_, Reads.bool b, by simp⟩
  | .int i, _, _, h, r => by
    cases h
    obtain ⟨t, rfl⟩ := r
    exact ⟨_, Reads.int i t, by simp⟩
  | .str x, _, _, h, r => by
    cases h
    obtain ⟨t, rfl⟩ := r
    exact ⟨_, Reads.str x t, by simp⟩
  | .list ds, _, _, h, r => by
    cases h with
    | lst hs ha =>
      cases r
      obtain ⟨its, rv, ⟨o, n, ho, hc, _, hd⟩, _⟩ := I.list hs
      obtain ⟨as, hr, na⟩ := Dv.readsAll I hm ds _ its ha rv
      refine ⟨_, Reads.list ho hc hd hr, fun hmem => ?_⟩
      rcases List.mem_cons.mp hmem with z | z
      · obtain ⟨om, es, ep, hg, hq⟩ := hm
        rw [z, ho] at hg
        cases hg
        rw [hd] at hq
        cases hq
      · exact na z
  | .tuple ds, _, _, h, r => by
    cases h with
    | tup hs ha =>
      cases r
      obtain ⟨its, rv, ⟨o, ho, hc, n, hd⟩, _⟩ := I.tuple hs
      obtain ⟨as, hr, na⟩ := Dv.readsAll I hm ds _ its ha rv
      exact ⟨_, Reads.tuple ho hc hd hr, na⟩
  | .dict ps, _, _, h, r => by
    cases h with
    | dic hs ha =>
      cases r
      obtain ⟨_, hne, vs, kv, hD⟩ := hs.ok I.hok
      obtain ⟨as, hr, na⟩ := Dv.readsKv I hm ps _ vs ha kv
      refine ⟨_, PyProof.V.reads_dictOf (enc := keyD) (fun k key e => keyD_reads k key e) hD hr, fun hmem => ?_⟩
      rcases List.mem_cons.mp hmem with z | z
      · rw [← z] at hne
        simp at hne
      · exact na z
theorem Dv.readsAll (I : Inv X pins σ H s) (hm : ModsD s.heap) : ∀ (ds : List PyData) (vs : List V) (us : List Value), Dvs X.K H vs ds → Vals vs us → ∃ as, ReadsAll s.heap us ds as ∧ sysModules ∉ as
  | [], _, _, h, r => by
    cases h; cases r
    exact ⟨_, ReadsAll.nil, by simp⟩
  | d :: ds, _, _, h, r => by
    cases h with
    | cons h1 h2 =>
      cases r with
      | cons r1 r2 =>
        obtain ⟨as, q1, n1⟩ := Dv.reads I hm d _ _ h1 r1
        obtain ⟨bs, q2, n2⟩ := Dv.readsAll I hm ds _ _ h2 r2
        exact ⟨_, ReadsAll.cons q1 q2, fun z => (List.mem_append.mp z).elim n1 n2⟩
theorem Dv.readsKv (I : Inv X pins σ H s) (hm : ModsD s.heap) : ∀ (ps : List (PyData × PyData)) (kvs : List (Key × V)) (us : List (Key × Value)), Dks X.K H kvs ps → KV kvs us → ∃ as, PyProof.V.PairsRead s.heap keyD us ps as ∧ sysModules ∉ as
  | [], _, _, h, r => by
    cases h; cases r
    exact ⟨_, PyProof.V.PairsRead.nil, by simp⟩
  | _ :: ps, _, _, h, r => by
    cases h with
    | cons h1 h2 =>
      cases r with
      | @cons _ q _ _ r1 r2 =>
        obtain ⟨qk, qv⟩ := q
        obtain ⟨e1, r1⟩ := r1
        obtain rfl : _ = qk := e1
        obtain ⟨as, q1, n1⟩ := Dv.reads I hm _ _ _ h1 r1
        obtain ⟨bs, q2, n2⟩ := Dv.readsKv I hm ps _ _ h2 r2
        exact ⟨_, PyProof.V.PairsRead.cons q1 q2, fun z => (List.mem_append.mp z).elim n1 n2⟩
end

/-- what base says of the modules' dict, for every state -/
theorem modsD_of (hb : ModsD X.base) (I : Inv X pins σ H s) : ModsD s.heap :=
  let ⟨o, es, ep, h1, h2⟩ := hb
  ⟨o, es, ep, I.bk _ _ h1, h2⟩

/-- repr(x) of data, no repr being under way -/
def rRepr (K : PySem.W.Frag) : List V → Hp → VK → Prop := fun xs H Q => ∃ (v : V) (d : PyData), xs = [v] ∧ Dv K H v d ∧ d.showable = true ∧ d.shown.length ≤ 10000 ∧ d.depth ≤ 40 ∧ Q (.str d.shown) H
theorem call_reprD (hg : X.A.guards = some []) (hu : X.A.units + 64 < cLine) (hb : ModsD X.base) : CallR X (.builtin "repr") (rRepr X.K) := by
  intro pins s σ H xs us Q I r h
  obtain ⟨v, d, rfl, hd, hs, hl, hdp, q⟩ := h
  obtain ⟨u, rfl, r1⟩ := vals1 r
  obtain ⟨as, hr, na⟩ := Dv.reads I (modsD_of hb I) d v u hd r1
  have hz : d.shown.length ≤ sizeLine := Nat.le_trans hl (by decide)
  cases hd with
  | non =>
    cases r1
    exact PySem.P.repr_of_none ⟨.str _, H, I.tok _, ⟨_, rfl⟩, q⟩
  | bl b =>
    cases r1
    refine PySem.P.repr_of_bool ⟨.str _, H, I.tok _, ⟨_, rfl⟩, ?_⟩
    cases b <;> exact q
  | int i =>
    obtain ⟨t, rfl⟩ := r1
    exact PySem.P.repr_of_int (by simpa [PyData.showable] using hs) ⟨.str _, H, I.tok _, ⟨_, rfl⟩, q⟩
  | str x =>
    obtain ⟨t, rfl⟩ := r1
    exact PySem.P.repr_of_str ⟨.str _, H, I.tok _, ⟨_, rfl⟩, q⟩ (by simpa only [PyData.shown] using hz)
  | lst h1 h2 =>
    cases r1
    exact repr_of_reads' hr hs (fun _ => na) hg (by omega) (fun _ _ e => e) (fun h' u tk hk => ⟨.str _, H, I.kept hk, ⟨_, rfl⟩, q⟩) hz
  | tup h1 h2 =>
    cases r1
    exact repr_of_reads' hr hs (fun _ => na) hg (by omega) (fun _ _ e => e) (fun h' u tk hk => ⟨.str _, H, I.kept hk, ⟨_, rfl⟩, q⟩) hz
  | dic h1 h2 =>
    cases r1
    exact repr_of_reads' hr hs (fun _ => na) hg (by omega) (fun _ _ e => e) (fun h' u tk hk => ⟨.str _, H, I.kept hk, ⟨_, rfl⟩, q⟩) hz
end
end KZ
end

section
set_option Elab.async false
set_option linter.all false
set_option maxRecDepth 100000
set_option maxHeartbeats 4000000
/-! promises of defs that hold where no repr is under way -/
namespace KZ
open PySem PySem.Spec PyProof.Rows L2

structure FnG (P : Program) (w : World) (K : PySem.W.Frag) (mg : Str → Option Value) (base : Heap) (cx : CXT) (k : Nat) (f : Addr) (fd : FuncData) (ps : List Str) (sp : Sp) : Prop where
  len : ∀ vs H Q E, sp vs H Q E → vs.length = ps.length
  runG : ∀ (A : Around) (out : List Env) (s : Shared) (H : Hp) (ar : Args) (us : List Value) (vs : List V) (Q : VK) (E : XK), A.guards = some [] → Room k A → Env0 P w K mg base A out s H → BindsTo s fd ar (ps.zip us) → Vals vs us → sp vs H Q E →
    codeAny (model P w) A (.call (.ref f) ar) (CR cx out P w H s Q E) s
theorem FnG.ofOk {P : Program} {w : World} {K : PySem.W.Frag} {mg : Str → Option Value} {base : Heap} {cx : CXT} {k : Nat} {f : Addr} {fd : FuncData} {ps : List Str} {sp : Sp} (F : FnOk P w K mg base cx k f fd ps sp) : FnG P w K mg base cx k f fd ps sp :=
  ⟨F.len, fun A out s H ar us vs Q E _ hr he hb hv hs => F.run A out s H ar us vs Q E hr he hb hv hs⟩
theorem FnG.mono {P : Program} {w : World} {K : PySem.W.Frag} {mg : Str → Option Value} {base : Heap} {cx : CXT} {j k : Nat} {f : Addr} {fd : FuncData} {ps : List Str} {sp : Sp} (F : FnG P w K mg base cx j f fd ps sp) (h : j ≤ k) : FnG P w K mg base cx k f fd ps sp :=
  ⟨F.len, fun A out s H ar us vs Q E hg hr he hb hv hs => F.runG A out s H ar us vs Q E hg (hr.mono h) he hb hv hs⟩

section
variable {X : Cx} {cx : CXT} {k : Nat} {f : Addr} {fd : FuncData} {ps : List Str} {sp : Sp} {dvs : List V} {ds : List Value} {E : XK} {x : Str} {p pos : Pos} {e : Expr} {es : List Expr} {t : TA}
theorem run_fnG {pins : List (Addr × Obj)} {σ : L2.St} {H : Hp} {s : Shared} {Q : VK} {us : List Value} {vs : List V} (F : FnG X.prog X.w X.K X.mg X.base cx k f fd ps sp) (hgd : X.A.guards = some []) (hr : Room k X.A) (hb : Binds X.K fd ps ds)
    (hd : Vals dvs ds) (hx : Passes cx X E) (I : Inv X pins σ H s) (r : Vals vs us) (h : sp (vs ++ dvs) H Q E) : wpAny (model X.prog X.w) X.A (call (.ref f) us) (EP X pins σ Q) X.xe s := by
  have rr : Vals (vs ++ dvs) (us ++ ds) := r.append hd
  have hl : (us ++ ds).length = ps.length := by rw [← rr.length]; exact F.len _ _ _ _ h
  refine wpAny_call (codeAny_mono (F.runG X.A X.stack s H ⟨us, []⟩ (us ++ ds) (vs ++ dvs) Q E hgd hr I.env0 (hb s us I.kIn hl) rr h) fun r s' hq => ?_)
  rcases r with er | fl
  · exact hx pins σ H s er s' I hq
  · cases fl with
    | ret u => exact I.after hq
    | _ => exact False.elim hq
theorem pe_callG (F : FnG X.prog X.w X.K X.mg X.base cx k f fd ps sp) (hgd : X.A.guards = some []) (hr : Room k X.A) (hg : Gl X x) (hm : X.mg x = some (.ref f)) (hk : PySem.W.keepIn X.K (.ref f) = true) (hb : Binds X.K fd ps ds) (hd : Vals dvs ds) (hx : Passes cx X E)
    (ha : PA X (e :: es) t) (hdb : (x == ("__debug__" : Str)) = false := by decide) (he : starEach (e :: es) X.env = (false, eval e X.env) :: starEach es X.env := by rfl) (hpl : (backTo pos (starEach es X.env)).any (·.1) = false := by rfl) :
    PE X (.Call (.Name x p) (e :: es) [] pos) (tCall sp dvs E t) :=
  ⟨fun pins s σ H Q I h => wpAny_Call_Name_kw (ld_glob I hg hm (PySem.W.callWith_K (h₀ := X.base) I.ok.mod.kin hk (thn (ha.run pos pins s σ H _ I h) fun us s1 ⟨vs, H1, I1, r, q⟩ =>
    ⟨I1.kIn, run_fnG F hgd hr hb hd hx I1 r q⟩) he hpl) hdb)⟩
end

/-- a def, its body walked where no repr is under way -/
theorem okG {P : Program} {w : World} {K : PySem.W.Frag} {mg : Str → Option Value} {base : Heap} {x qual : Str} {st : Stmt} {f : Addr} {fd : FuncData} {N ps : List Str} {k : Nat} {sp : Sp} (F : Fun K x qual st f fd) (S : FnScope N ps (defScope st))
    (len : ∀ vs H Q E, sp vs H Q E → vs.length = ps.length)
    (hbody : ∀ (cdv : Value) (A : Around) (out : List Env) (s : Shared) (H : Hp) (vs : List V) (Q : VK) (E : XK), A.guards = some [] → Room k (A.deeper (envOfC qual (defScope st) s.heap.objs.size f cdv)) → sp vs H Q E →
      ∃ t, PSs (cxOf CX0 P w K mg base N qual (defScope st) f cdv A out s H E).nox (defBody st) t ∧ t { nx := fun _ H' => Q .non H', rt := Q } (start N vs) H) : FnG P w K mg base CX0 (k + 1) f fd ps sp := by
  obtain ⟨oc, od, kV, doc, pm, an, cdv, ct, osl, rfl, lk, hcd⟩ := F.ex
  refine ⟨len, fun A out s H ar us vs Q E hgd hr e0 hb r hsp => LamX.run_ofS (N := N) lk hcd S hr e0 hb r (len _ _ _ _ hsp) fun hr' => ?_⟩
  obtain ⟨t, ht, q⟩ := hbody cdv A out s H vs Q E hgd hr' hsp
  exact ⟨t, ht.nox, q⟩
end KZ
end

section
set_option Elab.async false
set_option linter.all false
set_option maxRecDepth 100000
set_option maxHeartbeats 4000000
/-! errors of the program's own as values: made, read, kept behind a try -/
namespace KZ
open PySem PySem.Spec PyProof.Rows L2

/-- at a: an exception of the class at C, its dict d -/
def EXO (C a : Addr) (d : Option Addr) : HO := .ext fun h => ∃ (oe : Obj) (vs : Array Value), h.get? a = some oe ∧ Zc (.ref C) d oe ∧ oe.data = .fields vs
theorem exo_okE {P : Program} {w : World} {H : Hp} {h : Heap} {C a : Addr} {d : Option Addr} {oe : Obj} {vs : Array Value} (e : h.get? a = some oe) (z : Zc (.ref C) d oe) (f : oe.data = .fields vs) : ObjOk P w H h a (EXO C a d) :=
  ⟨⟨oe, vs, e, z, f⟩, ⟨oe, e⟩, fun _ _ ⟨o, v, q, r⟩ k => ⟨o, v, k o q, r⟩⟩
theorem EXO.get {P : Program} {w : World} {H : Hp} {h : Heap} {C a : Addr} {d : Option Addr} (ok : HOk P w H h) (e : H a = some (EXO C a d)) : ∃ (oe : Obj) (vs : Array Value), h.get? a = some oe ∧ Zc (.ref C) d oe ∧ oe.data = .fields vs := by
  have x : ObjOk P w H h a (.ext fun h => ∃ (oe : Obj) (vs : Array Value), h.get? a = some oe ∧ Zc (.ref C) d oe ∧ oe.data = .fields vs) := ok a _ e
  exact x.1
/-- at dd: the dict of an exception -/
def XD (H : Hp) (dd : Addr) (fs : List (Str × V)) : Prop := H dd = some (exd dd fs) ∨ H dd = some (.xd fs)
theorem XD.get {P : Program} {w : World} {H : Hp} {h : Heap} {dd : Addr} {fs : List (Str × V)} (ok : HOk P w H h) (e : XD H dd fs) : ∃ mA, h.Ns1 dd mA ∧ ∀ f, RelO (fs.lookup f) (mA f) := by
  rcases e with e | e
  · exact exd_at ok e
  · exact ok dd _ e
/-- what the written part says of such a class -/
structure ExcT (K : PySem.W.Frag) (C : Addr) : Prop where
  ga : PySem.W.findIn K (.ref C) "__getattribute__" = some (some (.builtin "BaseException.__getattribute__"))
  gg : PySem.W.findIn K (.ref C) "__getattr__" = some none
  be : PySem.W.subIn K (.ref C) (.type "BaseException") = some true
  hd : PySem.W.hasDictIn K C = true
  kl : PySem.W.findIn K (.ref C) "__class__" = some (some (.builtin "object.__class__"))
  ge : PySem.W.specialIn K (.builtin "object.__class__") "__get__" = some (some (.builtin "getset_descriptor.__get__"))
  tk : PySem.W.takesIn K (.builtin "object.__class__") = some true
  mo : PySem.W.mroIn K C (.type "object") = some true
section
variable {X : Cx} {pins : List (Addr × Obj)} {σ : L2.St} {H : Hp} {s : Shared}
theorem inst_of {C a dd : Addr} {fs : List (Str × V)} (I : Inv X pins σ H s) (e : H a = some (EXO C a (some dd))) (ed : XD H dd fs) :
    ∃ (oe od : Obj) (mA : Str → Option Value), PySem.W.InstAt s.heap a oe C (some od) ∧ (∀ n, PySem.W.lookIn n od = some (mA n)) ∧ ∀ f, RelO (fs.lookup f) (mA f) := by
  obtain ⟨oe, vs, ha, hz, hd⟩ := EXO.get I.hok e
  obtain ⟨mA, hns, rel⟩ := ed.get I.hok
  obtain ⟨od, ho, hl⟩ := lookIn_ns hns
  exact ⟨oe, od, mA, ⟨ha, hz.1, by unfold PySem.W.notCls; rw [hd] <;> rfl, by rw [hz.2]; exact ho⟩, hl, rel⟩
/-- e.n, e an error of the program's own -/
def tEf (K : PySem.W.Frag) (n : Str) (te : TE) : TE := fun σ H Q => te σ H fun x H1 => ∃ (a C dd : Addr) (fs : List (Str × V)) (v : V), x = .ref a ∧ ExcT K C ∧ PySem.W.findIn K (.ref C) n = some none ∧ H1 a = some (EXO C a (some dd)) ∧ XD H1 dd fs ∧ fs.lookup n = some v ∧ Q v H1
theorem pe_ef {e : Expr} {te : TE} {pos : Pos} {n : Str} (he : PE X e te) (hb : attributeBase e n X.env (eval e X.env) = eval e X.env := by rfl) : PE X (.Attribute e n pos) (tEf X.K n te) := by
  refine ⟨fun pins s σ H Q I h => attr_of hb (thn (he.run pins s σ H _ I h) fun u s1 hh => ?_)⟩
  obtain ⟨x, H1, I1, rx, a, C, dd, fs, v, ex, T, hno, ea, ed, l, q⟩ := hh
  subst ex
  obtain rfl : u = Value.ref a := rx
  obtain ⟨oe, od, mA, J, hl, hr⟩ := inst_of I1 ea ed
  obtain ⟨z, hz, rz⟩ := RelO.some_of (v := v) (o := mA n) (by rw [← l]; exact hr n)
  exact HandSPX.exc_get I1.kIn J T.ga T.gg T.be (PySem.W.findObj_own T.hd hno rfl (by rw [hl, hz])) (handed_of rz) ⟨v, H1, I1.tok _, rz, q⟩

/-- C(e, ..) as a value: a new error -/
def tOexV (C : Addr) (sp : Sp) (dvs : List V) (ta : TA) : TE := fun σ H Q => ta σ H fun vs H1 => vs.length ≤ 1000 ∧ ∀ a, H1 a = none → sp (.ref a :: (vs ++ dvs)) (upd H1 a (exo a C none))
  (fun v H2 => v = .non ∧ ∃ d, H2 a = some (exo a C (some d)) ∧ Q (.ref a) (upd H2 a (EXO C a (some d)))) (fun _ _ _ => False)
theorem retrack {C a d : Addr} (I : Inv X pins σ H s) (e : H a = some (exo a C (some d))) : Inv X pins σ (upd H a (EXO C a (some d))) s := by
  obtain ⟨t1, ha⟩ := exo_at I.hok e
  have J := I.write (t' := s.toks) (h' := s.heap) (x := a) (e := a) (o := EXO C a (some d)) (by rw [e]; exact True.intro) (.inl rfl) (fun _ _ _ q => q) ⟨_, ha⟩ (exo_okE ha ⟨rfl, rfl⟩ rfl)
  exact J
theorem pe_oex {cx : CXT} {x : Str} {C fI : Addr} {k : Nat} {fd : FuncData} {ps : List Str} {sp : Sp} {ds : List Value} {dvs : List V} {e : Expr} {es : List Expr} {ta : TA} {p pos : Pos} (T : OexC X.K C) (iC : PySem.W.findIn X.K (.ref C) "__init__" = some (some (.ref fI)))
    (tI : PySem.W.typeIn X.K (.ref fI) = some (.type "function")) (F1 : FnOk X.prog X.w X.K X.mg X.base cx k fI fd ps sp) (hr : Room (k + 1) X.A) (hb : Binds X.K fd ps ds) (hd : Vals dvs ds) (hx : Passes cx X (fun _ _ _ => False)) (hg : Gl X x)
    (hm : X.mg x = some (.ref C)) (ha : PA X (e :: es) ta) (hdb : (x == ("__debug__" : Str)) = false := by decide) (he : starEach (e :: es) X.env = (false, eval e X.env) :: starEach es X.env := by rfl) (hpl : (backTo pos (starEach es X.env)).any (·.1) = false := by rfl) :
    PE X (.Call (.Name x p) (e :: es) [] pos) (tOexV C sp dvs ta) := by
  refine ⟨fun pins s σ H Q I h => ?_⟩
  obtain ⟨nm, q, N, bs, bm, sn, sub, ab, col, dd, k0, k1, k2, k3, k5, hC, hbm⟩ := T.cls
  refine wpAny_Call_Name_kw (ld_glob I hg hm ?_ hdb)
  refine PySem.W.callWith_K (h₀ := X.base) I.ok.mod.kin T.kC (thn (ha.run pos pins s σ H _ I h) fun us s1 ⟨vs, H1, I1, r1, hz, q1⟩ => ⟨I1.kIn, ?_⟩) he hpl
  show wpAny _ _ (call (.ref C) us) _ _ _
  obtain ⟨hp, g, dr, tk, os⟩ := s1
  obtain ⟨a, hA⟩ : ∃ a, a = hp.objs.size + 1 := ⟨_, rfl⟩
  have hsz : hp.objs.size ≤ a := by rw [hA]; exact Nat.le_succ _
  have hq := q1 a (I1.hok.fresh hsz)
  have kk : ∀ b o, hp.get? b = some o → ((hp.push (PySem.W.kdv_tup us)).push (PySem.HandSPX.excO C hp.objs.size)).get? b = some o := fun b o e => Heap.get?_push_of_some _ (Heap.get?_push_of_some _ e)
  have hget : ((hp.push (PySem.W.kdv_tup us)).push (PySem.HandSPX.excO C hp.objs.size)).get? a = some (PySem.HandSPX.excO C hp.objs.size) := by rw [hA]; heap_get
  have I2 : Inv X pins σ (upd H1 a (exo a C none)) ⟨(hp.push (PySem.W.kdv_tup us)).push (PySem.HandSPX.excO C hp.objs.size), g, dr, tk, os⟩ :=
    I1.laid (t' := tk) (a := a) (o := exo a C none) (h' := (hp.push (PySem.W.kdv_tup us)).push (PySem.HandSPX.excO C hp.objs.size)) kk hsz (exo_ok hget)
  have r2 : Vals (V.ref a :: (vs ++ dvs)) (Value.ref a :: (us ++ ds)) := .cons rfl (r1.append hd)
  have hl : (Value.ref a :: us ++ ds).length = ps.length := by
    have e := r2.length
    rw [F1.len _ _ _ _ hq] at e
    exact e.symm
  have hus : us.length ≤ sizeLine := by
    rw [← Paired.length r1, sizeLine_eq]
    omega
  have core := F1.run _ X.stack _ _ ⟨Value.ref a :: us, []⟩ (Value.ref a :: (us ++ ds)) _ _ (fun _ _ _ => False) (hr.make C us []) (I2.env0.make C us []) (hb _ (Value.ref a :: us) I2.kIn hl) r2 hq
  rw [hA] at core
  refine wpAny_call (PySem.HandSPX.call_own F.excBase_ValueError (fun Y => PySem.HandSPX.refsVE_contains Y bm hbm) (I1.kIn _ _ hC) (PySem.W.looks_findIn I1.kIn iC) (fun self => PySem.W.bind_fn I1.kIn self tI) hus (codeAny_mono core fun r s' hq' => ?_))
  rw [← hA] at hq' ⊢
  cases r with
  | error er => exact hx pins σ _ _ er s' I2 hq'
  | ok fl =>
    cases fl with
    | ret u =>
      obtain ⟨v, H2, os2, bare2, un2, hok2, rv, ev, d, ea, q2⟩ := hq'
      subst ev
      have J : Inv X pins σ H2 s' := I2.call' (ch := []) os2 un2 hok2 bare2 (fun _ z => nomatch z)
      exact ⟨rv, .ref a, _, retrack J ea, rfl, q2⟩
    | next => exact False.elim hq'
    | brk => exact False.elim hq'
    | cont => exact False.elim hq'
end
end KZ
end

section
set_option Elab.async false
set_option linter.all false
set_option maxRecDepth 100000
set_option maxHeartbeats 4000000
/-! a caught error that is kept: try: .. except x as n: m = n -/
namespace KZ
open PySem PySem.Spec PyProof.Rows L2
section
variable {X : Cx} {pins : List (Addr × Obj)} {σ : L2.St} {H : Hp} {s : Shared}
/-- an object of ours that isn't tracked yet, an error, is tracked from here on -/
theorem track {a C : Addr} {d : Option Addr} {oe : Obj} {vs : Array Value} (I : Inv X pins σ H s) (ha : s.heap.get? a = some oe) (hz : Zc (.ref C) d oe) (hd : oe.data = .fields vs) (na : H a = none)
    (n0 : X.s_0.heap.get? a = none) (np : ∀ p ∈ X.pn ++ pins, p.1 ≠ a) (nL : a ≠ X.env.locals) : Inv X pins σ (upd H a (EXO C a d)) s := by
  have nea : ∀ {b : Addr} {o : HO}, H b = some o → b ≠ a := fun {b o} q => ne_of_none q na
  have ne0 : ∀ {b : Addr} {o : Obj}, X.s_0.heap.get? b = some o → b ≠ a := fun {b o} q z => by
    rw [z, n0] at q
    cases q
  refine ⟨I.ok, I.os, I.bare, ⟨I.base.keep, I.base.slot, fun b o q n hb => ?_, I.base.there, fun b xs q => ?_, fun b o u q => ?_, fun b ps q => ?_⟩, I.loc, I.cell, ?_, fun x c e => ?_, fun p hp => ?_, fun b o q => ?_, I.len⟩
  · rw [upd_ne (ne0 q)]
    exact I.base.free b o q n hb
  · have z := I.base.tups b xs q
    rw [upd_ne (nea z)]
    exact z
  · have z := I.base.frzs b o u q
    rw [upd_ne (nea z)]
    exact z
  · obtain ⟨m, z⟩ := I.base.tbls b ps q
    exact ⟨m, by rw [upd_ne (nea z)]; exact z⟩
  · rw [upd_ne (Ne.symm nL)]
    exact I.free
  · obtain ⟨v, oc, ho, hc⟩ := I.cell x c e
    have nc : c ≠ a := fun z => by
      rw [z, ha] at ho
      cases ho
      rw [hd] at hc
      cases hc
    rw [upd_ne nc]
    exact I.freeC x c e
  · obtain ⟨h1, h2, h3⟩ := I.pin p hp
    exact ⟨h1, by rw [upd_ne (np p hp)]; exact h2, h3⟩
  · by_cases hb : b = a
    · subst hb
      rw [upd_same] at q
      cases q
      exact exo_okE ha hz hd
    · rw [upd_ne hb] at q
      exact (I.hok b o q).stay (fun _ _ _ z => z) (fun c z => by rw [upd_ne (nea z)]; exact z) fun c xs z => by rw [upd_ne (nea z)]; exact z

/-- what the clause wishes of an error of the body: n is slot i, m slot j -/
def wKeep (K : PySem.W.Frag) (c : Value) (i j : Nat) (Wo : WX) (D : Ends) : WX := fun cls d σ H =>
  ∃ C, cls = .ref C ∧ ∃ b, PySem.W.exmOne K cls c = some b ∧ (b = true → ∀ a, H a = none → D.nx (((σ.set i (some (.ref a))).set j (some (.ref a))).set i none) (upd H a (EXO C a d))) ∧ (b = false → Wo cls d σ H)
variable {x n m : Str} {c : Value} {i j : Nat} {body : List Stmt} {np np2 mp ap pos pos' : Pos} {tb : WX → TS} {Wo : WX}
theorem ps_try_keep (hs : X.stack = X.env :: X.outer) (hf : X.env.frame = some X.env.locals) (hex : X.ex = []) (hN : X.N.Nodup) (hi : X.N[i]? = some n) (hln : X.env.kindOf n = some .local) (hj : X.N[j]? = some m) (hlm : X.env.kindOf m = some .local)
    (hc : Names X x c) (tk : Takes X Wo) (hsw : swapsWith (.Name n np2) (some (.Name m mp)) ap.line X.env = pure false) (hdn : (n == ("__debug__" : Str)) = false) (hcn : (n == ("__classdict__" : Str)) = false)
    (hb : ∀ (W : WX) (pn : List (Addr × Obj)) (xe : Value → Shared → Prop), Takes (X.tr pn xe) W → PassesOwn (model X.prog X.w) X.A X.env xe → PSs (X.tr pn xe) body (tb W)) :
    PS X (.Try body [.ExceptHandler (some (.Name x np)) (some n) [.Assign [.Name m mp] (.Name n np2) ap] pos'] [] [] pos) (fun D σ H => tb (wKeep X.K c i j Wo D) D σ H) := by
  refine ⟨fun pins s σ H D I h => ?_⟩
  have ok0 := I.ok
  have hfr : X.A.frames = some (X.env :: X.outer) := ok0.frames.trans (congrArg some hs)
  refine wpAny_Try_except ?_
  let Wl := wKeep X.K c i j Wo D
  let hd1 : ExceptHandler := .ExceptHandler (some (.Name x np)) (some n) [.Assign [.Name m mp] (.Name n np2) ap] pos'
  refine wpAny_mono ((hb Wl (X.pn ++ pins) (fun e s₁ => wpAny (model X.prog X.w) X.A (noteFrame e X.env) (fun _ s₂ => wpAny (model X.prog X.w) X.A (setFlight e none) (fun _ s₃ => wpAny (model X.prog X.w) X.A (handleBy e X.env [hd1]) (SP X pins D) X.xe s₃) X.xe s₂) X.xe s₁)
    (fun u s' xx => ?_) PassesOwn.looking).run [] s σ H D (I.toTry _) h) (fun f s1 hsp => ?_) (fun e s1 he => he)
  · obtain ⟨a, B, sI, pins', σ', H', cls, d, rfl, J', nb, up, sky, na, os, ag, C, rfl, b, hb1, hyes, hno⟩ := xx
    have J : Inv X pins σ' H' sI := J'.ofTry ok0
    have sky' : Sky B (X.env :: X.outer) a (Zc (.ref C) d) X.env.locals s'.heap := hs ▸ sky
    show wpAny (model X.prog X.w) X.A (noteFrame (.ref a) X.env) _ _ _
    refine Sky.land Zc.steady hfr hf sky' fun h3 fl3 up3 => ?_
    have J3 : Inv X pins σ' H' { s' with heap := h3 } := J.landed nb fl3.1 (up.trans up3) os ag
    obtain ⟨oe3, vs3, he3, hz3, hd3⟩ := fl3.there
    have nfr : a ∉ frs (X.env :: X.outer) := fun hm => by
      obtain ⟨_, o', e', hnf⟩ := fl3.2.2.1.mem hm
      rw [he3] at e'
      cases e'
      exact hnf _ hd3
    have nL : a ≠ X.env.locals := fun z => nfr (List.mem_filterMap.mpr ⟨X.env, List.mem_cons_self, by rw [hf, z]⟩)
    have nF : a ∉ X.fs := fun hm => by
      obtain ⟨ev, hev, q⟩ := List.mem_filterMap.mp hm
      exact nfr (List.mem_filterMap.mpr ⟨ev, List.mem_cons_of_mem _ hev, q⟩)
    have nst : a ∉ frs X.stack := by rw [hs]; exact nfr
    have nB : B.get? a = none := fl3.2.1
    have nI : sI.heap.get? a = none := by
      cases q : sI.heap.get? a with
      | none => rfl
      | some o =>
        have z := nb a o q nst
        rw [nB] at z
        cases z
    have n0 : X.s_0.heap.get? a = none := by
      cases q : X.s_0.heap.get? a with
      | none => rfl
      | some o =>
        obtain ⟨o', z⟩ := J.base.there a o q (by rw [hex]; exact fun z => nomatch z)
        rw [nI] at z
        cases z
    have npin : ∀ p ∈ X.pn ++ pins, p.1 ≠ a := fun p hp z => by
      have q := (J.pin p hp).1
      rw [z, nI] at q
      cases q
    have S3 := J3.suite he3 hd3 na nL nF
    refine wpAny_handleBy_cons (codeAny_handlers_test ?_) (by intro q; cases q)
    have LT : PySem.W.Looks (model X.prog X.w) h3 (typeOf (.ref a)) (.ref C) := fun A Q E s k q => wpAny_typeOf_ref (k _ _ he3) (by rw [hz3.1]; exact q)
    have LM := PySem.W.exm_one (M := model X.prog X.w) (J3.kIn) LT hb1
    have test : ∀ {Q : Value → Shared → Prop} {E : Value → Shared → Prop}, Q c { s' with heap := h3 } → wpAny (model X.prog X.w) (X.A.mark (some (.ref a))) (eval (.Name x np) X.env) Q E { s' with heap := h3 } := fun {Q E} q => by
      rcases hc with ⟨hg, hdbg, hm' | ⟨hm', hv, hnn⟩⟩
      · exact ld_glob (X := X.suite a ((a, oe3) :: (X.pn ++ pins))) S3 hg hm' q hdbg
      · exact ld_blt (X := X.suite a ((a, oe3) :: (X.pn ++ pins))) S3 hg hm' hv q hnn hdbg
    refine test (LM.here ?_)
    cases b with
    | true =>
      refine codeAny_handlers_suite_as (HandSPX.lands_againZ fl3 fun h4 fl4 up4 => ?_)
      have J4 : Inv X pins σ' H' { s' with heap := h4 } := J.landed nb fl4.1 ((up.trans up3).trans up4) os ag
      obtain ⟨oe4, vs4, he4, hz4, hd4⟩ := fl4.there
      have S4 := J4.suite he4 hd4 na nL nF
      have hi' : i < σ'.length := by rw [J4.len]; exact (List.getElem?_eq_some_iff.mp hi).1
      refine store_ok (X := X.suite a ((a, oe4) :: (X.pn ++ pins))) (v := .ref a) S4 hN hi (.inl hln) rfl (fun s5 S5 => ?_) (.inr hln)
      have R := pss_one (X := X.suite a ((a, oe4) :: (X.pn ++ pins))) (ps_asg (X := X.suite a ((a, oe4) :: (X.pn ++ pins))) (pos := ap) (pe_var (i := i) (pos := np2) hi (.inl hln) hdn hcn) (pg_name (i := j) (pos := mp) hN hj (.inl hlm) (.inr hlm)) hsw)
      let D' : Ends := { nx := fun σ6 H6 => σ6 = (σ'.set i (some (.ref a))).set j (some (.ref a)) ∧ H6 = H', rt := fun _ _ => False }
      refine wpAny_mono (R.run [] s5 _ H' D' S5 ?_) (fun f s6 hsp => ?_) (fun _ _ z => False.elim z)
      · exact ⟨.ref a, List.getElem?_set_self hi', rfl, rfl⟩
      · cases f with
        | next =>
          obtain ⟨σ6, H6, S6, rfl, rfl⟩ := hsp
          have he6 := (S6.pin (a, oe4) (List.mem_append_left _ List.mem_cons_self)).1
          have T6 := track (S6.unsuite ok0) he6 hz4 hd4 na n0 npin nL
          exact gone_ok T6 hN hi hln fun s7 J7 => ⟨_, _, J7, hyes rfl a na⟩
        | brk => obtain ⟨_, _, _, z⟩ := hsp; exact z.elim
        | cont => obtain ⟨_, _, _, z⟩ := hsp; exact z.elim
        | ret u => obtain ⟨_, _, _, _, _, z⟩ := hsp; exact z.elim
    | false =>
      show wpAny _ X.A (handleBy (.ref a) X.env []) _ _ _
      refine wpAny_handleBy_nil ?_
      obtain ⟨k1, k2, k3, oe, vs, T, oT, ts', he, hz, hd, h1, hr⟩ := id fl3
      unfold PySem.passOn
      refine wpAny_bind (wpAny_field he hd h1 ?_)
      rw [if_neg (show ¬ ((Value.ref T == Value.none) = true) from by simp)]
      have fin : wpAny (model X.prog X.w) X.A (setFlight (.ref a) X.env.frame) (fun _ s4 => wpAny (model X.prog X.w) X.A (throw (.ref a) : Sem Flow) (SP X pins D) X.xe s4) X.xe { s' with heap := h3 } := by
        rw [hf]
        refine HandSPX.setFlight_upZ fl3 fun h4 hh4 up4 => wpAny_throw (tk _ _ ⟨a, B, sI, pins, σ', H', .ref C, d, rfl, J, nb, (up.trans up3).trans up4, .inr (.inr (by rw [hs]; exact hh4)), na, os, ag, hno rfl⟩)
      first
        | exact wpAny_bind (wpAny_pure (wpAny_bind fin))
        | exact wpAny_bind fin
  · cases f with
    | next =>
      obtain ⟨σ', H', J', q⟩ := hsp
      exact wpAny_execs_nil ⟨σ', H', J'.ofTry ok0, q⟩
    | ret u =>
      obtain ⟨v, σ', H', J', r, q⟩ := hsp
      exact ⟨v, σ', H', J'.ofTry ok0, r, q⟩
    | _ =>
      obtain ⟨σ', H', J', q⟩ := hsp
      exact ⟨σ', H', J'.ofTry ok0, q⟩

/-- isinstance(e, c), e a known error of the program's own -/
def rIsX (K : PySem.W.Frag) : List V → Hp → VK → Prop := fun xs H Q => ∃ (a C dd : Addr) (fs : List (Str × V)) (c : V) (u : Value) (b : Bool), xs = [.ref a, c] ∧ ClsV c u ∧ ExcT K C ∧ H a = some (EXO C a (some dd)) ∧ XD H dd fs ∧ PySem.W.kitOne K (.ref C) u = some b ∧ Q (.bl b) H
theorem call_isX : CallR X (.builtin "isinstance") (rIsX X.K) := by
  intro pins s σ H xs us Q I r h
  obtain ⟨a, C, dd, fs, c, u, b, rfl, k, T, ea, ed, e, q⟩ := h
  obtain ⟨u1, u2, rfl, r1, r2⟩ := vals2 r
  have e2 := k.eq r2
  subst e2
  obtain rfl : u1 = Value.ref a := r1
  obtain ⟨oe, od, mA, J, _, _⟩ := inst_of I ea ed
  have hcl : (PySem.W.clsIn X.K C).isSome = true := by
    obtain ⟨cd, hC, _⟩ := PySem.W.any_some T.hd
    rw [hC]
    rfl
  exact PySem.W.kia_one (PySem.W.kitx_exc hcl T.ga T.gg T.be T.kl T.ge T.tk T.mo) I.kIn J e (fun z => nomatch z) fun tk => ⟨.bl b, H, I.tok tk, rfl, q⟩
end
end KZ
end

section
set_option Elab.async false
set_option linter.all false
set_option maxRecDepth 100000
set_option maxHeartbeats 4000000
/-! calls with keywords alone: of defs, of own errors -/
namespace PySem
namespace KZ5
open PySem.HandSPX Builtin Builtin.ObjectAttr
section
variable {M : Model} {A : Around} {E : Value → Shared → Prop} {h : Heap} {g : Array GenState} {d : Drawn} {t : Nat} {os : OsState} {prog : Program} {w : World} {R : Result → Shared → Prop}
variable {nm q : Str} {C N : Addr} {bs bm bmB : List Value} {hdct : Bool} {sn : List Str} {sub : List Value} {ab : Bool} {col : Option Bool} {dd : Option Addr} {k0 k1 k2 k3 k5 : Option Value} {B newId initId : String} {kws : List (Str × Value)}
theorem check_newK (F : ExcBaseFacts B newId initId bmB) (hT : ∀ X : String, bm.contains (.type X) = bmB.contains (.type X)) {rest : List Value} {Q : Unit → Shared → Prop}
    (hC : h.get? C = some (excClassObj nm q C N bs bm hdct sn sub ab col dd k0 k1 k2 k3 k5 newId)) (hq : Q () ⟨h, g, d, t, os⟩) : wpAny M A (checkBuiltinCall newId ⟨.ref C :: rest, kws⟩) Q E ⟨h, g, d, t, os⟩ := by
  have hco : (Value.ref C :: bm).contains (.type B) = true := by rw [List.contains_cons, hT, F.hasB, Bool.or_true]
  have hst := F.noStar
  simp only [checkBuiltinCall, F.newKind, F.newSplit, F.newRow]
  repeat (first | refine wpAny_loadPart_at hC ?_ | (refine wpAny_isSubtype_exc hC ?_; rw [hco]) | refine wpAny_staticBase_exc hC ?_ | refine wpAny_madeBy_exc hC ?_ | simp only [bne_self_eq_false, Bool.false_eq_true, if_false] | wp_step)
  exact hq
theorem new_K (F : ExcBaseFacts B newId initId bmB) (hT : ∀ X : String, bm.contains (.type X) = bmB.contains (.type X))
    (hC : h.get? C = some (excClassObj nm q C N bs bm hdct sn sub ab col dd k0 k1 k2 k3 k5 newId))
    (hq : R (.ok (.ret (.ref (h.objs.size + 1)))) ⟨(h.push (W.kdv_tup [])).push (excO C h.objs.size), g, d, t, os⟩) : codeAny (model prog w) A (.builtin newId ⟨[.ref C], kws⟩) R ⟨h, g, d, t, os⟩ := by
  have hends := F.ends
  have hc1 : (Value.ref C :: bm).contains (.type B) = true := by rw [List.contains_cons, hT, F.hasB, Bool.or_true]
  have hc2 : (Value.ref C :: bm).contains (.type "AttributeError") = false := by rw [List.contains_cons, hT, F.noAttr]; rfl
  have hc3 : (Value.ref C :: bm).contains (.type "NameError") = false := by rw [List.contains_cons, hT, F.noName]; rfl
  refine codeAny_builtinAt F.entry ?_
  unfold Builtin.«BaseException.__new__»
  refine wpAt_bind ?_
  show wpAt _ _ _ (stack >>= _) _ _ _
  refine wpAt_bind (wpAt_stack fun p below => wpAt_of_wpAny ?_)
  wp_walk
  refine wpAt_of_wpAny ?_
  rw [F.owner]
  repeat (first | with_reducible refine wpAny_madeHere_exc F.canon hC ?_ | with_reducible refine wpAny_loadPart_at hC ?_ | (with_reducible refine wpAny_isSubtype_exc hC ?_; first | rw [hc1] | rw [hc2] | rw [hc3]) | wp_step)
  show R _ _
  rw [Heap.size_push]
  exact hq
theorem type_call_K (F : ExcBaseFacts B newId initId bmB) (hT : ∀ X : String, bm.contains (.type X) = bmB.contains (.type X)) {fI : Addr} {Q : Fin → Shared → Prop}
    (hC : h.get? C = some (excClassObj nm q C N bs bm hdct sn sub ab col dd k0 k1 k2 k3 k5 newId))
    (hi : W.Looks (model prog w) h (typeLookup (.ref C) "__init__") (some (.ref fI))) (hb : ∀ self, W.Looks (model prog w) h (bindSpecial (.ref fI) self) (.ref fI, [self]))
    (hq : codeAny (model prog w) A (.call (.ref fI) ⟨[.ref (h.objs.size + 1)], kws⟩)
      (fun r s' => match r with | .ok (.ret v) => v = .none ∧ Q (.done (.ret (.ref (h.objs.size + 1)))) s' | .ok _ => False | .error e => E e s') ⟨(h.push (W.kdv_tup [])).push (excO C h.objs.size), g, d, t, os⟩) :
    wpAny (model prog w) A (Builtin.«type.__call__» ⟨[.ref C], kws⟩) Q E ⟨h, g, d, t, os⟩ := by
  repeat (first | with_reducible refine wpAny_loadPart_at hC ?_ | with_reducible refine wpAny_madeBy_exc hC ?_ | wp_step)
  refine codeAny_call_builtin_code (Code.quiet_builtin _ F.quiet) (check_newK F hT hC ?_)
  refine new_K F hT hC ?_
  show wpAny _ _ _ _ _ _
  have k : ∀ b o, h.get? b = some o → ((h.push (W.kdv_tup [])).push (excO C h.objs.size)).get? b = some o := fun b o e => Heap.get?_push_of_some _ (Heap.get?_push_of_some _ e)
  have hC2 := k _ _ hC
  have hget : ((h.push (W.kdv_tup [])).push (excO C h.objs.size)).get? (h.objs.size + 1) = some (excO C h.objs.size) := by heap_get
  have hcC : (Value.ref C :: bm).contains (.ref C) = true := by simp
  have i1 := hi.keeps k
  have b1 := (hb (.ref (h.objs.size + 1))).keeps k
  unfold isInstance
  repeat (first | with_reducible refine wpAny_loadPart_at hget ?_ | (with_reducible refine wpAny_isSubtype_exc hC2 ?_; rw [hcC]) | wp_step)
  show wpAny _ _ (typeLookup (.ref C) _) _ _ _
  refine i1.at (wpAny_holding (wpAny_bind (b1.at ?_)))
  refine wpAny_bind (wpAny_call (codeAny_mono hq fun r s' z => ?_))
  rcases r with e | (v | _ | _ | _) <;> first | exact z | exact z.elim | skip
  obtain ⟨rfl, z⟩ := z
  first
    | exact wpAny_pure (wpAny_pure z)
    | (wp_walk; exact z)
theorem check_type_K (hC : h.get? C = some (excClassObj nm q C N bs bm hdct sn sub ab col dd k0 k1 k2 k3 k5 newId)) {Q : Unit → Shared → Prop}
    (hq : Q () ⟨h, g, d, t, os⟩) : wpAny M A (checkBuiltinCall "type.__call__" ⟨[.ref C], kws⟩) Q E ⟨h, g, d, t, os⟩ := by
  have f3 := tc_sub
  have hT : (⟨h, g, d, t, os⟩ : Shared).TypeIs (.ref C) "type" := ⟨_, hC, rfl⟩
  simp only [checkBuiltinCall, tc_kind, tc_split]
  repeat (any_goals (first | assumption | with_reducible refine wpAny_loadPart_at hC ?_ | with_reducible refine wpAny_onRaise ?_ | with_reducible refine wpAny_map ?_ | wp_step))
theorem call_K (F : ExcBaseFacts B newId initId bmB) (hT : ∀ X : String, bm.contains (.type X) = bmB.contains (.type X)) {fI : Addr}
    (hC : h.get? C = some (excClassObj nm q C N bs bm hdct sn sub ab col dd k0 k1 k2 k3 k5 newId))
    (hi : W.Looks (model prog w) h (typeLookup (.ref C) "__init__") (some (.ref fI))) (hb : ∀ self, W.Looks (model prog w) h (bindSpecial (.ref fI) self) (.ref fI, [self]))
    (hq : codeAny (model prog w) (A.under (.builtin "type.__call__" ⟨[.ref C], kws⟩)) (.call (.ref fI) ⟨[.ref (h.objs.size + 1)], kws⟩) (W.InitBack (h.objs.size + 1) R) ⟨(h.push (W.kdv_tup [])).push (excO C h.objs.size), g, d, t, os⟩) :
    codeAny (model prog w) A (.call (.ref C) ⟨[], kws⟩) R ⟨h, g, d, t, os⟩ := by
  have f1 := tc_lookup
  have f2 := tc_bind (.ref C)
  have hTy : (⟨h, g, d, t, os⟩ : Shared).TypeIs (.ref C) "type" := ⟨_, hC, rfl⟩
  refine codeAny_of_tree ?_
  show wpAny _ _ (callAny (.ref C) _) _ _ _
  repeat (any_goals (first | assumption | with_reducible refine wpAny_loadPart_at hC ?_ | wp_step))
  refine ⟨rfl, ?_⟩
  refine codeAny_call_builtin_at (Code.quiet_builtin _ (by decide +kernel)) entry_typeCall (check_type_K hC (type_call_K F hT hC hi hb ?_))
  refine codeAny_mono hq fun r s' z => ?_
  rcases r with e | (v | _ | _ | _) <;> exact z
end
end KZ5
end PySem
namespace KZ
open PySem PySem.Spec PyProof.Rows L2
section
variable {X : Cx} {cx : CXT} {k : Nat} {f C fI : Addr} {fd : FuncData} {ps ks : List Str} {sp : Sp} {E : XK} {x : Str} {p pos : Pos} {kws : List Keyword} {tk : TA} {g : List Value → List Value → List Value} {gV : List V → List V → List V}
/-- f(k = v, ..) -/
theorem pe_callK0 (F : FnOk X.prog X.w X.K X.mg X.base cx k f fd ps sp) (hr : Room k X.A) (hg : Gl X x) (hm : X.mg x = some (.ref f)) (hk : PySem.W.keepIn X.K (.ref f) = true) (hb : KBinds X.K fd ps ks g gV) (hx : Passes cx X E) (hkw : PK X kws tk)
    (hall : (backToKw pos (keywordEach kws X.env)).all (·.1.isSome) = true := by rfl) (hks : (backToKw pos (keywordEach kws X.env)).filterMap (·.1) = ks := by rfl) (hdb : (x == ("__debug__" : Str)) = false := by decide)
    (hpl : ((backTo pos (starEach [] X.env)).any (·.1) || (backToKw pos (keywordEach kws X.env)).any (·.1.isNone)) = false := by rfl) : PE X (.Call (.Name x p) [] kws pos) (tCallK sp gV E tNil tk) :=
  ⟨fun pins s σ H Q I h => wpAny_Call_Name_kw (ld_glob I hg hm (PySem.W.callWith_KW0 (h₀ := X.base) I.ok.mod.kin hk hall (thn (hkw.run pos pins s σ H _ I h) fun ws s2 ⟨zs, H2, I2, rz, q2⟩ => ⟨I2.kIn, by
    rw [hks]
    exact run_fnk (us := []) (vs := []) F hr hb hx I2 .nil rz q2⟩) hpl) hdb)⟩
/-- C(k = v, ..), an own error -/
def tOexK (C : Addr) (sp : Sp) (gV : List V → List V → List V) (tk : TA) : TE := fun σ H Q => tk σ H fun zs H1 => ∀ a, H1 a = none → sp (gV [.ref a] zs) (upd H1 a (exo a C none))
  (fun v H2 => v = .non ∧ ∃ d, H2 a = some (exo a C (some d)) ∧ Q (.ref a) (upd H2 a (EXO C a (some d)))) (fun _ _ _ => False)
theorem pe_oexK0 (T : OexC X.K C) (iC : PySem.W.findIn X.K (.ref C) "__init__" = some (some (.ref fI))) (tI : PySem.W.typeIn X.K (.ref fI) = some (.type "function")) (F1 : FnOk X.prog X.w X.K X.mg X.base cx k fI fd ps sp) (hr : Room (k + 1) X.A)
    (hb : KBinds X.K fd ps ks g gV) (hx : Passes cx X (fun _ _ _ => False)) (hg : Gl X x) (hm : X.mg x = some (.ref C)) (hkw : PK X kws tk)
    (hall : (backToKw pos (keywordEach kws X.env)).all (·.1.isSome) = true := by rfl) (hks : (backToKw pos (keywordEach kws X.env)).filterMap (·.1) = ks := by rfl) (hdb : (x == ("__debug__" : Str)) = false := by decide)
    (hpl : ((backTo pos (starEach [] X.env)).any (·.1) || (backToKw pos (keywordEach kws X.env)).any (·.1.isNone)) = false := by rfl) : PE X (.Call (.Name x p) [] kws pos) (tOexK C sp gV tk) := by
  refine ⟨fun pins s σ H Q I h => ?_⟩
  obtain ⟨nm, q, N, bs, bm, sn, sub, ab, col, dd, k0, k1, k2, k3, k5, hC, hbm⟩ := T.cls
  refine wpAny_Call_Name_kw (ld_glob I hg hm ?_ hdb)
  refine PySem.W.callWith_KW0 (h₀ := X.base) I.ok.mod.kin T.kC hall (thn (hkw.run pos pins s σ H _ I h) fun ws s1 ⟨zs, H1, I1, rz, q1⟩ => ⟨I1.kIn, ?_⟩) hpl
  rw [hks]
  show wpAny _ _ (call (.ref C) [] (ks.zip ws)) _ _ _
  obtain ⟨hp, gg, dr, tk, os⟩ := s1
  obtain ⟨a, hA⟩ : ∃ a, a = hp.objs.size + 1 := ⟨_, rfl⟩
  have hsz : hp.objs.size ≤ a := by rw [hA]; exact Nat.le_succ _
  have hq := q1 a (I1.hok.fresh hsz)
  have kk : ∀ b o, hp.get? b = some o → ((hp.push (PySem.W.kdv_tup [])).push (PySem.HandSPX.excO C hp.objs.size)).get? b = some o := fun b o e => Heap.get?_push_of_some _ (Heap.get?_push_of_some _ e)
  have hget : ((hp.push (PySem.W.kdv_tup [])).push (PySem.HandSPX.excO C hp.objs.size)).get? a = some (PySem.HandSPX.excO C hp.objs.size) := by rw [hA]; heap_get
  have I2 : Inv X pins σ (upd H1 a (exo a C none)) ⟨(hp.push (PySem.W.kdv_tup [])).push (PySem.HandSPX.excO C hp.objs.size), gg, dr, tk, os⟩ :=
    I1.laid (t' := tk) (a := a) (o := exo a C none) (h' := (hp.push (PySem.W.kdv_tup [])).push (PySem.HandSPX.excO C hp.objs.size)) kk hsz (exo_ok hget)
  have r2 := hb.rel (vs := [V.ref a]) (us := [Value.ref a]) (.cons rfl .nil) rz
  have hl : (g [Value.ref a] ws).length = ps.length := by
    rw [← r2.length]
    exact F1.len _ _ _ _ hq
  have core := F1.run _ X.stack _ _ ⟨[Value.ref a], ks.zip ws⟩ (g [Value.ref a] ws) _ _ (fun _ _ _ => False) (hr.make C [] (ks.zip ws)) (I2.env0.make C [] (ks.zip ws)) (hb.to _ [Value.ref a] ws I2.kIn hl) r2 hq
  rw [hA] at core
  refine wpAny_call (PySem.KZ5.call_K F.excBase_ValueError (fun Y => PySem.HandSPX.refsVE_contains Y bm hbm) (I1.kIn _ _ hC) (PySem.W.looks_findIn I1.kIn iC) (fun self => PySem.W.bind_fn I1.kIn self tI) (codeAny_mono core fun r s' hq' => ?_))
  rw [← hA] at hq' ⊢
  cases r with
  | error er => exact hx pins σ _ _ er s' I2 hq'
  | ok fl =>
    cases fl with
    | ret u =>
      obtain ⟨v, H2, os2, bare2, un2, hok2, rv, ev, d, ea, q2⟩ := hq'
      subst ev
      have J : Inv X pins σ H2 s' := I2.call' (ch := []) os2 un2 hok2 bare2 (fun _ z => nomatch z)
      exact ⟨rv, .ref a, _, retrack J ea, rfl, q2⟩
    | _ => exact False.elim hq'
end
end KZ
end

section
set_option Elab.async false
set_option linter.all false
set_option maxRecDepth 100000
set_option maxHeartbeats 4000000
/-! the law's own call, its promise told where no repr is under way, the modules' dict known -/
namespace KZ
open PySem PySem.Spec PyProof.Rows L2

section
variable {P : Program} {w : World} {K : PySem.W.Frag} {mg mb : Str → Option Value} {k : Nat} {fa a : Addr} {cs : List (Addr × Addr)} {fd : FuncData} {x : Str} {sp : Sp} {st : Shared} {vs : List Value} {ns : List Int}
/-- the head's heap, as the law's call wants it -/
structure TopAt (K : PySem.W.Frag) (mg mb : Str → Option Value) (cs : List (Addr × Addr)) (st : Shared) : Prop where
  kin : K.In st.heap
  gl : st.heap.Ns mainGlobals mg
  bl : st.heap.Ns builtinsNs mb
  bb : ∀ x : Str, x ≠ "__name__" → mb x = bootBuiltins x
  lim : st.heap.NoLimit
  mods : ∃ mm, st.heap.Ns sysModules mm
  gens : st.gens = #[]
  tabs : ∀ p ∈ cs, st.heap.get? p.2 = some { cls := .none, data := .fields #[] }
  notK : ∀ p ∈ cs, K.lookup p.2 = none
  code : ∀ p ∈ cs, PySem.W.CodeHd st.heap p.1 p.2
  bm : ∃ (bm : Addr) (ob : Obj), mg "__builtins__" = some (.ref bm) ∧ bm ≠ builtinsNs ∧ st.heap.get? bm = some ob ∧ ob.cls = .type "module" ∧ ob.dict = some builtinsNs ∧ ob.data = .plain
/-- what is tracked at the law's call: the script, where it is no object of the module, and the tables -/
def H0 (K : PySem.W.Frag) (cs : List (Addr × Addr)) (a : Addr) (vs : List Value) (ns : List Int) : Hp := fun b =>
  if b = a ∧ K.lookup a = none then some (.frz { cls := .type "list", data := .seq vs.toArray } (.lst (ns.map V.int))) else if b ∈ cs.map (·.2) then some (.tbl #[]) else none
theorem H0_not {b : Addr} (h1 : b ≠ a) (h2 : b ∉ cs.map (·.2)) : H0 K cs a vs ns b = none := by
  unfold H0
  rw [if_neg (fun z => h1 z.1), if_neg h2]
theorem tabAt (T : TopAt K mg mb cs st) {b : Addr} (hb : b ∈ cs.map (·.2)) : st.heap.get? b = some { cls := .none, data := .fields #[] } ∧ K.lookup b = none := by
  obtain ⟨p, hp, e⟩ := List.mem_map.mp hb
  subst e
  exact ⟨T.tabs p hp, T.notK p hp⟩
theorem notTab (T : TopAt K mg mb cs st) (ha : st.heap.get? a = some { cls := .type "list", data := .seq vs.toArray }) : a ∉ cs.map (·.2) := fun z => by
  have q := (tabAt T z).1
  rw [ha] at q
  cases q
theorem H0_tab (T : TopAt K mg mb cs st) (ha : st.heap.get? a = some { cls := .type "list", data := .seq vs.toArray }) {b : Addr} (hb : b ∈ cs.map (·.2)) : H0 K cs a vs ns b = some (.tbl #[]) := by
  unfold H0
  rw [if_neg (show ¬ (b = a ∧ K.lookup a = none) from fun z => notTab T ha (z.1 ▸ hb)), if_pos hb]
/-- an object that is neither a list nor an empty table is not tracked -/
theorem H0_free (T : TopAt K mg mb cs st) (ha : st.heap.get? a = some { cls := .type "list", data := .seq vs.toArray }) {b : Addr} {o : Obj} (e : st.heap.get? b = some o) (h1 : ∀ vs n, o.data ≠ .seq vs n) (h2 : o.data ≠ .fields #[]) : H0 K cs a vs ns b = none := by
  refine H0_not (fun z => ?_) fun z => ?_
  · rw [z, ha] at e
    cases e
    exact h1 _ _ rfl
  · rw [(tabAt T z).1] at e
    cases e
    exact h2 rfl
theorem H0_ok (T : TopAt K mg mb cs st) (ha : st.heap.get? a = some { cls := .type "list", data := .seq vs.toArray }) (hi : IntsAre vs ns) (hl : ns.length ≤ sizeLine) : HOk P w (H0 K cs a vs ns) st.heap := fun b u z => by
  unfold H0 at z
  split at z
  · rename_i q
    cases z
    rw [q.1]
    exact ⟨ha, by rw [List.length_map]; exact hl, vs, _, vals_ints hi, ha⟩
  · split at z
    · rename_i q
      cases z
      exact (tabAt T q).1
    · cases z
theorem H0_sq (T : TopAt K mg mb cs st) (ha : st.heap.get? a = some { cls := .type "list", data := .seq vs.toArray }) (hi : IntsAre vs ns) (hl : ns.length ≤ sizeLine) : SqL K (H0 K cs a vs ns) a (ns.map V.int) := by
  cases hk : K.lookup a with
  | none => exact .inl (.inr ⟨_, by unfold H0; rw [if_pos ⟨rfl, hk⟩]⟩)
  | some o =>
    have e := T.kin a o hk
    rw [ha] at e
    cases e
    exact .inr ⟨_, vs.toArray, _, hk, rfl, rfl, rfl, by rw [List.size_toArray, hi.length]; exact hl, by simpa using vals_ints hi⟩
theorem top_base (T : TopAt K mg mb cs st) (ha : st.heap.get? a = some { cls := .type "list", data := .seq vs.toArray }) :
    L2.Mod K mg (hidT st.heap (H0 K cs a vs ns)) ∧ ModsD (hidT st.heap (H0 K cs a vs ns)) ∧ ∀ p ∈ cs, LamX.TabB (hidT st.heap (H0 K cs a vs ns)) mg p.1 p.2 := by
  have dk : ∀ {b : Addr} {o : Obj} {es : Array DictEntry} {ep : Nat}, st.heap.get? b = some o → o.data = .dict es ep → (hidT st.heap (H0 K cs a vs ns)).get? b = some o := fun e d =>
    hidT_get e (H0_free T ha e (fun _ _ z => by rw [d] at z; cases z) fun z => by rw [d] at z; cases z)
  have nk : ∀ {b : Addr} {m : Str → Option Value}, st.heap.Ns b m → (hidT st.heap (H0 K cs a vs ns)).Ns b m := fun ⟨o, es, ep, e, d, r⟩ => ⟨o, es, ep, dk e d, d, r⟩
  have kin : K.In (hidT st.heap (H0 K cs a vs ns)) := fun b o e => hidT_get (T.kin b o e) (by
    unfold H0
    rw [if_neg (fun z => by rw [z.1, z.2] at e; cases e), if_neg (fun z => by rw [(tabAt T z).2] at e; cases e)])
  obtain ⟨mm, om, es, ep, em, dm, _⟩ := T.mods
  obtain ⟨mc, l1, l2⟩ := T.lim
  refine ⟨⟨kin, nk T.gl, ⟨mb, nk T.bl, T.bb⟩, mc, nk l1, l2⟩, ⟨om, es, ep, dk em dm, dm⟩, fun p hp => ⟨?_, ?_, fun z => ?_⟩⟩
  · obtain ⟨o, us, file, tf, flags, tg, inF, text, tt, e1, r1, r2, r3, rr⟩ := T.code p hp
    refine ⟨o, us, file, tf, flags, tg, inF, text, tt, hidT_get e1 (H0_free T ha e1 (fun _ _ z => by rw [r2] at z; cases z) fun z => ?_), r1, r2, r3, rr⟩
    rw [r2] at z
    cases z
    simp at r3
  · obtain ⟨bm, ob, b1, b2, b3, b4, b5, b6⟩ := T.bm
    have g1 : bm ≠ mainGlobals := fun q => by
      obtain ⟨o, es, ep, e, hd, _⟩ := T.gl
      rw [q, e] at b3
      cases b3
      rw [hd] at b6
      cases b6
    have g2 : bm ≠ p.2 := fun q => by
      rw [q, T.tabs p hp] at b3
      cases b3
      cases b6
    exact ⟨bm, ob, b1, b2, g1, g2, hidT_get b3 (H0_free T ha b3 (fun _ _ z => by rw [b6] at z; cases z) fun z => by rw [b6] at z; cases z), b4, b5, b6⟩
  · obtain ⟨o, es, ep, e, hd, _⟩ := T.gl
    rw [z, T.tabs p hp] at e
    cases e
    cases hd
/-- THE CALL -/
theorem law_callG (T : TopAt K mg mb cs st) (ha : st.heap.get? a = some { cls := .type "list", data := .seq vs.toArray }) (hi : IntsAre vs ns) (hl : ns.length ≤ sizeLine) (hr : Room k callerA)
    (F : ∀ base : Heap, K.In base → base.Ns mainGlobals mg → ModsD base → (∀ p ∈ cs, LamX.TabB base mg p.1 p.2) → FnG P w K mg base CX0 k fa fd [x] sp) (hbind : ∀ (s : Shared) (u : Value), BindsTo s fd ⟨[u], []⟩ [(x, u)])
    (hsp : ∀ H : Hp, (∀ p ∈ cs, H p.2 = some (.tbl #[])) → SqL K H a (ns.map V.int) → sp [.ref a] H (fun v _ => v = .bl true) fun _ _ _ => False) :
    codeAny (model P w) callerA (.call (.ref fa) ⟨[.ref a], []⟩) (fun r s' => r = .ok (.ret (.bool true)) ∧ OldK st.heap s'.heap ∧ s'.os = st.os ∧ AllBare s'.gens) st := by
  obtain ⟨hM, hD, hT⟩ := top_base (vs := vs) (ns := ns) T ha
  have ok : HOk P w (H0 K cs a vs ns) st.heap := H0_ok T ha hi hl
  have e0 : Env0 P w K mg (hidT st.heap (H0 K cs a vs ns)) callerA [] st (H0 K cs a vs ns) := ⟨rfl, hM, fun b o e => of_hidT e, Nat.le_of_eq (hidT_size _ _), trivial, (fun b hb => nomatch hb), ok, .of_eq T.gens⟩
  refine codeAny_mono ((F _ hM.kin hM.glob hD hT).runG callerA [] st _ ⟨[.ref a], []⟩ [.ref a] [.ref a] _ _ rfl hr e0 (hbind st (.ref a)) (.cons rfl .nil) (hsp _ (fun p hp => H0_tab T ha (List.mem_map.mpr ⟨p, hp, rfl⟩)) (H0_sq T ha hi hl))) fun r s' h => ?_
  cases r with
  | error e => exact (show False from h).elim
  | ok fl =>
    cases fl with
    | ret u =>
      obtain ⟨v, H', os, bare, un, ok', r', q⟩ := h
      have q' : v = .bl true := q
      subst q'
      obtain rfl : u = Value.bool true := r'
      have same : ∀ b o, b ∉ cs.map (·.2) → st.heap.get? b = some o → s'.heap.get? b = some o := fun b o nb e => by
        cases z : H0 K cs a vs ns b with
        | none => exact un.keep b o e z (fun y => nomatch (show b ∈ ([] : List Addr) from y)) (fun y => nomatch y)
        | some u =>
          have zz := z
          unfold H0 at zz
          by_cases hba : b = a ∧ K.lookup a = none
          · rw [if_pos hba] at zz
            cases zz
            obtain ⟨e1, _⟩ := ok b _ z
            obtain ⟨e2, _⟩ := ok' b _ (un.frzs b _ _ z)
            rw [e] at e1
            cases e1
            exact e2
          · rw [if_neg hba, if_neg nb] at zz
            cases zz
      have grown : ∀ p ∈ cs, ∃ more : Array Value, s'.heap.get? p.2 = some { cls := .none, data := .fields more } := fun p hp => by
        obtain ⟨more, z⟩ := un.tbls p.2 #[] (H0_tab T ha (List.mem_map.mpr ⟨p, hp, rfl⟩))
        exact ⟨_, ok' p.2 _ z⟩
      refine ⟨rfl, ⟨fun b o e => ?_, fun b o e => ?_⟩, os, bare⟩
      · by_cases hb : b ∈ cs.map (·.2)
        · obtain ⟨p, hp, ep⟩ := List.mem_map.mp hb
          obtain ⟨more, hm⟩ := grown p hp
          subst ep
          rw [T.tabs p hp] at e
          cases e
          exact .inr (.inl ⟨((T.code p hp).tab (T.tabs p hp)).isCodeTable, rfl, #[], more, rfl, by rw [Array.empty_append]; exact hm⟩)
        · exact .inl (same b o hb e)
      · by_cases hb : b ∈ cs.map (·.2)
        · obtain ⟨p, hp, ep⟩ := List.mem_map.mp hb
          obtain ⟨more, hm⟩ := grown p hp
          subst ep
          rw [T.tabs p hp] at e
          cases e
          exact ⟨_, hm⟩
        · exact ⟨o, same b o hb e⟩
    | _ => exact False.elim h
end
/-- what is known of the law's promise at the head's heap h -/
def LawG (l : PySem.W.OpenLaw) (w : World) (K : PySem.W.Frag) (k n : Nat) (x : Str) (mg : Str → Option Value) (fa : Addr) (h : Heap) : Prop :=
  ∃ (fd : FuncData) (cs : List (Addr × Addr)) (sp : Sp), (∀ p ∈ cs, h.get? p.2 = some { cls := .none, data := .fields #[] }) ∧ (∀ p ∈ cs, K.lookup p.2 = none) ∧ (∀ p ∈ cs, PySem.W.CodeHd h p.1 p.2) ∧ (∀ (s : Shared) (u : Value), BindsTo s fd ⟨[u], []⟩ [(x, u)]) ∧
    (∀ (H : Hp) (a : Addr) (ns : List Int), ns.length ≤ n → (∀ z ∈ ns, Builtin.Int.intBits z ≤ 1048576) → (∀ p ∈ cs, H p.2 = some (.tbl #[])) → SqL K H a (ns.map V.int) → sp [.ref a] H (fun v _ => v = .bl true) fun _ _ _ => False) ∧
    ∀ base : Heap, K.In base → base.Ns mainGlobals mg → ModsD base → (∀ p ∈ cs, LamX.TabB base mg p.1 p.2) → FnG l.prog w K mg base CX0 k fa fd [x] sp
theorem walkG {l : PySem.W.OpenLaw} {n k : Nat} {q : Program} {loose : List Str} {XP : (Str → Option Value) → Heap → Prop} {YP : World → Heap → Prop} {d : DefRec} {K : Params → PySem.W.Frag} {x : Str}
    (hn : l.most = some n) (hn2 : n ≤ sizeLine) (hdf : d.params.defaults = []) (hr : Room k callerA) (hno : importsNone q = true) (hY : ∀ (w : World) (h : Heap), YP w h → (K w.params).In h)
    (F : ∀ (w : World) (mg : Str → Option Value) (fa : Addr) (h : Heap), YP w h → (K w.params).In h → h.Ns mainGlobals mg → mg d.name = some (.ref fa) → LawG l w (K w.params) k n x mg fa h) :
    PySem.W.WalkO q loose XP YP l.row.toRowW d [] (fun f vs => PySem.call f vs) := by
  refine Att.attach_callB hn hdf fun w s₀ s₁ mg mb fa o pm cd doc a vs ns G Y ho hd hcd hmg hobj hints hlen hbits hg => ?_
  have kx := hY w _ Y
  obtain ⟨fd, cs, sp, hT, nT, C, hb, hsp, hF⟩ := F w mg fa _ Y kx G.T.g hmg
  have ms := (G.T.seer hno).mods
  exact law_callG ⟨kx, G.T.g, G.T.b, G.T.builtins, G.T.nolimit, ⟨_, ms.choose_spec.1⟩, hg, hT, nT, C, G.T.bmain⟩ hobj hints (Nat.le_trans hlen hn2) hr hF hb fun H hH hS => hsp H a ns hlen hbits hH hS
end KZ
end

section
set_option Elab.async false
set_option linter.all false
set_option maxRecDepth 100000
set_option maxHeartbeats 4000000
/-! own errors without a dict: made, asked by isinstance -/
namespace KZ
open PySem PySem.Spec PyProof.Rows L2
section
variable {X : Cx} {pins : List (Addr × Obj)} {σ : L2.St} {H : Hp} {s : Shared}
/-- isinstance(e, c), e an error of the program's own, with a dict or without -/
def rIsE (K : PySem.W.Frag) : List V → Hp → VK → Prop := fun xs H Q => ∃ (a C : Addr) (d : Option Addr) (c : V) (u : Value) (b : Bool), xs = [.ref a, c] ∧ ClsV c u ∧ ExcT K C ∧ H a = some (EXO C a d) ∧ (∀ dd, d = some dd → ∃ fs, XD H dd fs) ∧ PySem.W.kitOne K (.ref C) u = some b ∧ Q (.bl b) H
theorem call_isE : CallR X (.builtin "isinstance") (rIsE X.K) := by
  intro pins s σ H xs us Q I r h
  obtain ⟨a, C, d, c, u, b, rfl, k, T, ea, ed, e, q⟩ := h
  obtain ⟨u1, u2, rfl, r1, r2⟩ := vals2 r
  have e2 := k.eq r2
  subst e2
  obtain rfl : u1 = Value.ref a := r1
  have hcl : (PySem.W.clsIn X.K C).isSome = true := by
    obtain ⟨cd, hC, _⟩ := PySem.W.any_some T.hd
    rw [hC]
    rfl
  obtain ⟨oe, od, J⟩ : ∃ (oe : Obj) (od : Option Obj), PySem.W.InstAt s.heap a oe C od := by
    cases d with
    | some dd =>
      obtain ⟨fs, ed⟩ := ed dd rfl
      obtain ⟨oe, od, mA, J, _, _⟩ := inst_of I ea ed
      exact ⟨oe, _, J⟩
    | none =>
      obtain ⟨oe, vs, ha, hz, hd⟩ := EXO.get I.hok ea
      exact ⟨oe, none, ⟨ha, hz.1, by unfold PySem.W.notCls; rw [hd] <;> rfl, by rw [hz.2]; exact True.intro⟩⟩
  exact PySem.W.kia_one (PySem.W.kitx_exc hcl T.ga T.gg T.be T.kl T.ge T.tk T.mo) I.kIn J e (fun z => nomatch z) fun tk => ⟨.bl b, H, I.tok tk, rfl, q⟩
/-- C(), an own error without an __init__ of its own -/
theorem pe_oex0 {C : Addr} {bmB : List Value} {B newId initId : String} {x : Str} {p pos : Pos} (F : ExcBaseFacts B newId initId bmB) (q : PySem.W.excIn X.K C bmB newId = true) (gC : X.mg x = some (.ref C)) (kC : PySem.W.keepIn X.K (.ref C) = true) (hg : Gl X x)
    (hdb : (x == ("__debug__" : Str)) = false := by decide) :
    PE X (.Call (.Name x p) [] [] pos) (fun σ H Q => ∀ a, H a = none → Q (.ref a) (upd H a (EXO C a none))) := by
  refine ⟨fun pins s σ H Q I h => ?_⟩
  refine wpAny_Call_Name_kw (ld_glob I hg gC ?_ hdb)
  refine PySem.W.callWith_K0 I.kIn kC ?_
  obtain ⟨bm, N, nm, qn, bs, hdct, sn, sub, ab, col, dd, k0, k1, k2, k3, k5, mN, hC, hN, hni, T⟩ := exc_obj I.kIn q
  refine wpAny_call_exc_subT F T hC hN hni (fun h' a hm => ?_) (by show 0 ≤ sizeLine; omega)
  have hn : H a = none := I.hok.gone hm.new
  obtain ⟨t, ht, _, _⟩ := hm.there
  exact ⟨.ref a, upd H a (EXO C a none), I.laidN hm.keeps hm.new hn (exo_okE ht ⟨rfl, rfl⟩ rfl), rfl, h a hn⟩
end
end KZ
end

section
set_option Elab.async false
set_option linter.all false
set_option maxRecDepth 100000
set_option maxHeartbeats 4000000
/-! the end over a head by names: own errors' facts by one Bool -/
namespace KZ
open PySem PySem.Spec PyProof.Rows L2
theorem walkGE {l : PySem.W.OpenLaw} {n k : Nat} {q : Program} {loose : List Str} {XP : (Str → Option Value) → Heap → Prop} {YP : World → Heap → Prop} {d : DefRec} {x : Str}
    (hn : l.most = some n) (hn2 : n ≤ sizeLine) (hdf : d.params.defaults = []) (hr : Room k callerA) (hno : importsNone q = true)
    (F : ∀ (w : World) (mg : Str → Option Value) (fa : Addr) (h : Heap), YP w h → h.Ns mainGlobals mg → mg d.name = some (.ref fa) → ∃ K : PySem.W.Frag, K.In h ∧ LawG l w K k n x mg fa h) :
    PySem.W.WalkO q loose XP YP l.row.toRowW d [] (fun f vs => PySem.call f vs) := by
  refine Att.attach_callB hn hdf fun w s₀ s₁ mg mb fa o pm cd doc a vs ns G Y ho hd hcd hmg hobj hints hlen hbits hg => ?_
  obtain ⟨K, kx, fd, cs, sp, hT, nT, C, hb, hsp, hF⟩ := F w mg fa _ Y G.T.g hmg
  have ms := (G.T.seer hno).mods
  exact law_callG ⟨kx, G.T.g, G.T.b, G.T.builtins, G.T.nolimit, ⟨_, ms.choose_spec.1⟩, hg, hT, nT, C, G.T.bmain⟩ hobj hints (Nat.le_trans hlen hn2) hr hF hb fun H hH hS => hsp H a ns hlen hbits hH hS
theorem fun_of {K : PySem.W.Frag} {x qual : Str} {st : Stmt} {f : Addr} {fd : FuncData} (F : FunD K x qual (defArgs st) (defBody st) (defScope st) [] [] f fd) : Fun K x qual st f fd := by
  obtain ⟨oc, od, dV, kV, doc, pm, an, cdv, ct, osl, e, lk, hcd, hD, hK⟩ := F.ex
  rcases hD with ⟨_, rfl⟩ | ⟨z, _⟩
  · exact ⟨⟨oc, od, kV, doc, pm, an, cdv, ct, osl, e, lk, hcd⟩, F.kp⟩
  · exact absurd rfl z
def oexB (K : PySem.W.Frag) (C : Addr) : Bool := match K.lookup C with
  | some ⟨.type "type", _, .cls cd, sl⟩ => (match cd.mro, sl.toList with
    | .ref C' :: bm, [_, _, _, _, some (.builtin n), _] => C' == C && n == "ValueError.__new__" && !cd.hasDel && cd.hasDict && PySem.HandSPX.refsVE bm
    | _, _ => false)
  | _ => false
theorem oexB_ok {K : PySem.W.Frag} {C : Addr} (q : oexB K C = true) :
    ∃ nm q N bs bm sn sub ab col dd k0 k1 k2 k3 k5, K.lookup C = some (excClassObj nm q C N bs bm true sn sub ab col dd k0 k1 k2 k3 k5 "ValueError.__new__") ∧ PySem.HandSPX.refsVE bm = true := by
  unfold oexB at q
  split at q
  · rename_i dd cd sl ho
    split at q
    · rename_i C' bm k0 k1 k2 k3 n k5 hm hs
      simp only [Bool.and_eq_true, beq_iff_eq, Bool.not_eq_true'] at q
      obtain ⟨⟨⟨⟨rfl, rfl⟩, hdel⟩, hd⟩, hr⟩ := q
      obtain ⟨nm, bs, mro, ns, qn, hd', sn, sub, ab, col, del⟩ := cd
      dsimp only at hm hdel hd
      subst hm hdel hd
      have hsl : sl = #[k0, k1, k2, k3, some (.builtin "ValueError.__new__"), k5] := by
        obtain ⟨l⟩ := sl
        simp only at hs
        rw [hs]
      subst hsl
      exact ⟨nm, qn, ns, bs, bm, sn, sub, ab, col, dd, k0, k1, k2, k3, k5, ho, hr⟩
    · cases q
  · cases q
/-- what is asked of every error class -/
def errB (K : PySem.W.Frag) (C : Addr) : Bool := He.eqO (PySem.W.findIn K (.ref C) "__getattribute__") (some (some (.builtin "BaseException.__getattribute__"))) && (He.eqO (PySem.W.findIn K (.ref C) "__getattr__") (some none) &&
  (decide (PySem.W.subIn K (.ref C) (.type "BaseException") = some true) && (PySem.W.hasDictIn K C && (He.eqO (PySem.W.findIn K (.ref C) "__class__") (some (some (.builtin "object.__class__"))) && (He.eqO (PySem.W.specialIn K (.builtin "object.__class__") "__get__") (some (some (.builtin "getset_descriptor.__get__"))) &&
  (decide (PySem.W.takesIn K (.builtin "object.__class__") = some true) && decide (PySem.W.mroIn K C (.type "object") = some true)))))))
theorem errB_ok {K : PySem.W.Frag} {C : Addr} (h : errB K C = true) : ExcT K C := by
  obtain ⟨h1, h⟩ := He.ba h
  obtain ⟨h2, h⟩ := He.ba h
  obtain ⟨h3, h⟩ := He.ba h
  obtain ⟨h4, h⟩ := He.ba h
  obtain ⟨h5, h⟩ := He.ba h
  obtain ⟨h6, h⟩ := He.ba h
  obtain ⟨h7, h8⟩ := He.ba h
  exact ⟨He.eqO_ok h1, He.eqO_ok h2, of_decide_eq_true h3, h4, He.eqO_ok h5, He.eqO_ok h6, of_decide_eq_true h7, of_decide_eq_true h8⟩
/-- what is asked of an error class with its own __init__, its fields fs -/
def errI (K : PySem.W.Frag) (C : Addr) (fs : List Str) : Bool := errB K C && (oexB K C && (He.eqO (PySem.W.findIn K (.ref C) "__setattr__") (some (some (.builtin "object.__setattr__"))) && (decide (PySem.W.typeIn K (.ref C) = some (.type "type")) && (PySem.W.keepIn K (.ref C) &&
  (He.eqO (PySem.W.findIn K (.ref C) "__init__") (some (some (.ref (He.ma K C "__init__")))) && (decide (PySem.W.typeIn K (.ref (He.ma K C "__init__")) = some (.type "function")) && fs.all fun f => He.eqO (PySem.W.findIn K (.ref C) f) (some none)))))))
end KZ
end

section
set_option Elab.async false
set_option linter.all false
set_option maxRecDepth 100000
set_option maxHeartbeats 4000000
/-! the head's facts over a chosen part of the heap: what some names lead to, the globals' dict itself not gone into -/
namespace KZ
open PySem PySem.Spec PyProof.Rows L2 He
/-- one step further, but not through the globals -/
def grY (g : Addr → Option Obj) (as : List Addr) : List Addr :=
  ((as ++ (as.map fun a => ((g a).map refsD).getD []).flatten).filter fun a => !(Nat.beq a mainGlobals)).eraseDups
def stY (g : Addr → Option Obj) : Nat → List Addr → List Addr
  | 0, as => as
  | m + 1, as => stY g m (grY g as)
/-- the globals, and what these names lead to in m steps -/
def asY (names : List Str) (m : Nat) (g : Addr → Option Obj) : List Addr :=
  mainGlobals :: stY g m (names.map fun x => ga (frG g [mainGlobals]) x)
/-- the globals; these defs; these classes, what they name, and what their own __init__ names -/
def asZ (fs cs : List Str) (g : Addr → Option Obj) : List Addr :=
  let K0 := frG g [mainGlobals]
  let nx := fun a => ((g a).map refsD).getD []
  (mainGlobals :: ((fs.map fun x => let a := ga K0 x; (a :: nx a).filter fun b => !(Nat.beq b mainGlobals)).flatten ++
    (cs.map fun x => let C := ga K0 x; let l := nx C; let i := ma (frG g (C :: l)) C "__init__"; (C :: l) ++ (i :: nx i)).flatten)).eraseDups
section
variable (as : (Addr → Option Obj) → List Addr) (fa : List Fa) (fn : List DefD) (ts : List Tab) (tf : List Defn) (ex : PySem.W.Frag → Bool)
def partY (g : Addr → Option Obj) : PySem.W.Frag := frT g (as g)
def obsY (g : Addr → Option Obj) : AlX :=
  let K := partY as g
  (obsT fa fn ts K, ex K && tabsB g tf K)
theorem saysY {w : World} {h : Heap} (e : obsY as fa fn ts tf ex h.get? = valX fn ts w) : SaysX fa fn ts tf ex w h (partY as h.get?) := by
  have z := Prod.mk.inj e
  obtain ⟨x1, x2⟩ := ba z.2
  have at_ : ∀ p, p ∈ tf → PySem.W.codeHdIn (partY as h.get?) (cT (partY as h.get?) p).1 (cT (partY as h.get?) p).2 = true ∧
      ∃ o, h.get? (cT (partY as h.get?) p).2 = some o ∧ emptyTab o = true := by
    intro p hp
    have y := ba (List.all_eq_true.mp x2 p hp)
    refine ⟨y.1, ?_⟩
    have y2 := y.2
    split at y2
    · rename_i o ho
      exact ⟨o, ho, y2⟩
    · cases y2
  constructor
  · exact z.1
  · exact x1
  · exact fun p hp => (at_ p hp).1
  · intro p hp
    have ⟨o, ho, eo⟩ := (at_ p hp).2
    exact frT_none ho eo
  · intro p hp
    have ⟨o, ho, eo⟩ := (at_ p hp).2
    exact ho.trans (congrArg some (emptyTab_eq eo))
def hookY : PySem.W.Hook where
  α := AlX
  obs s := obsY as fa fn ts tf ex s.heap.get?
  val w := valX fn ts w
  says w h := ∃ K : PySem.W.Frag, K.In h ∧ SaysX fa fn ts tf ex w h K
  of _ _ e := ⟨partY as _, frT_in, saysY as fa fn ts tf ex e⟩
  keeps _ _ _ c k := by
    obtain ⟨K, hK, s⟩ := c
    exact ⟨K, hK.keeps k, s.t, s.more, s.hd, s.out, fun p hp => k _ _ (s.empty p hp)⟩
theorem obsY_eq {g : Addr → Option Obj} {s : Shared} (h : ∀ a, g a = s.heap.get? a) : obsY as fa fn ts tf ex g = (hookY as fa fn ts tf ex).obs s := by
  rw [show g = s.heap.get? from funext h]
  rfl
end
/-- the same world; one row of the text's is told -/
def told (b : Bool) (w : World) : World := ⟨w.draws, { w.params with followText := fun row => if row = "special-get-raises" then b else w.params.followText row }⟩
theorem told_eq {b : Bool} {w : World} (h : w.params.followText "special-get-raises" = b) : told b w = w := by
  obtain ⟨d, p⟩ := w
  have e : (fun row => if row = "special-get-raises" then b else p.followText row) = p.followText := funext fun row => by
    by_cases z : row = "special-get-raises"
    · rw [if_pos z, z]; exact h.symm
    · rw [if_neg z]
  show (⟨d, { p with followText := fun row => if row = "special-get-raises" then b else p.followText row }⟩ : World) = ⟨d, p⟩
  rw [e]
end KZ
end

section
set_option Elab.async false
set_option linter.all false
set_option maxRecDepth 100000
set_option maxHeartbeats 4000000
/-! the top's run, its plain steps without the looks that say nothing of them -/
noncomputable section
namespace KZ
open PySem PySem.W PySem.Calls PyProof.Rows HandSHeadRun
/-- one step of any kind, with all looks -/
def oneG (st : SharedT → Thread → Option (SharedT × Thread)) (n0 : Nat) (ann : Option Value) (on : SharedT → Thread → Option SharedT) (s : SharedT) (t : Thread) : Option SharedT :=
  match through t with
  | true => some s
  | false => match stepOk n0 ann t with
    | false => none
    | true => match st s t with
      | some (s', t') => frS s' fun s' => on s' t'
      | none => none
/-- what a frame keeps of a call -/
def keptBy (called code : Code) (lv : List Value) : List Value :=
  match called, code with
  | .builtin _ x, _ => unmarked x.refs
  | .call g x, .builtin _ _ => unmarked (if lv.contains borrowed then x.refs else g :: x.refs)
  | .call g x, .call _ _ => unmarked (if lv.contains borrowed then x.refs else g :: x.refs)
  | _, _ => []
/-- one step; on: what follows it -/
def oneH (st : SharedT → Thread → Option (SharedT × Thread)) (den : Code → Sem Fin) (p : Program) (w : World) (n0 : Nat) (ann : Option Value) (on : SharedT → Thread → Option SharedT) : SharedT → Thread → Option SharedT
  | ⟨T, n, life, gens, drawn, toks, os⟩, ⟨cur, code, pos, stack⟩ => match cur with
    | .rule _ k => on ⟨T, n, life, gens, drawn, toks, os⟩ ⟨k (), code, pos, stack⟩
    | .at q k => on ⟨T, n, life, gens, drawn, toks, os⟩ ⟨k (), code, q, stack⟩
    | .point _ k => on ⟨T, n, life, gens, drawn, toks, os⟩ ⟨k (), code, pos, stack⟩
    | .ask k => on ⟨T, n, life, gens, drawn, toks, os⟩ ⟨k ⟨p, w.params⟩, code, pos, stack⟩
    | .fresh k => frNat (toks + 1) fun m => on ⟨T, n, life, gens, drawn, m, os⟩ ⟨k toks, code, pos, stack⟩
    | .load a _ k => match Nat.blt a n with
      | true => match T.get a with
        | some o => match alive o with
          | some u => on ⟨T, n, life, gens, drawn, toks, os⟩ ⟨k u, code, pos, stack⟩
          | none => none
        | none => none
      | false => none
    | .alloc o k => match ((T.ins n o).get n).isSome with
      | true => frNat (n + 1) fun m => on ⟨T.ins n o, m, life, gens, drawn, toks, os⟩ ⟨k n, code, pos, stack⟩
      | false => none
    | .call c h g l k => on ⟨T, n, life, gens, drawn, toks, os⟩ ⟨den c, c, pos, .ret k h g l code pos (keptBy c code l) :: stack⟩
    | .pure (.done f) => match stack with
      | .ret k _ _ _ c p _ :: rest => on ⟨T, n, life, gens, drawn, toks, os⟩ ⟨k (.ok f), c, p, rest⟩
      | [] => some ⟨T, n, life, gens, drawn, toks, os⟩
      | .gen a k l c p :: rest => oneG st n0 ann on ⟨T, n, life, gens, drawn, toks, os⟩ ⟨.pure (.done f), code, pos, .gen a k l c p :: rest⟩
    | .update a _ f k => match Nat.ble n0 a || a == mainNs || a == cStatics || ann == some (.ref a) with
      | true => match Nat.blt a n with
        | true => match T.get a with
          | some o => match alive o with
            | some _ => on ⟨T.set a f, n, life, gens, drawn, toks, os⟩ ⟨k (), code, pos, stack⟩
            | none => none
          | none => none
        | false => none
      | false => none
    | c => oneG st n0 ann on ⟨T, n, life, gens, drawn, toks, os⟩ ⟨c, code, pos, stack⟩
def goH (st : SharedT → Thread → Option (SharedT × Thread)) (den : Code → Sem Fin) (p : Program) (w : World) (n0 : Nat) (ann : Option Value) (m : Nat) : SharedT → Thread → Option SharedT :=
  Nat.rec (motive := fun _ => SharedT → Thread → Option SharedT) (fun _ _ => none) (fun _ on s t => oneH st den p w n0 ann on s t) m
theorem goF_one (st : SharedT → Thread → Option (SharedT × Thread)) (n0 : Nat) (ann : Option Value) (m : Nat) (s : SharedT) (t : Thread) : goF st n0 ann (m + 1) s t = oneG st n0 ann (goF st n0 ann m) s t := rfl
theorem oneG_mono {st : SharedT → Thread → Option (SharedT × Thread)} {n0 : Nat} {ann : Option Value} {f g : SharedT → Thread → Option SharedT} (h : ∀ s t r, f s t = some r → g s t = some r) {s : SharedT} {t : Thread} {r : SharedT} (e : oneG st n0 ann f s t = some r) : oneG st n0 ann g s t = some r := by
  unfold oneG at e ⊢
  cases a : through t with
  | true => rw [a] at e; exact e
  | false =>
    rw [a] at e
    cases b : stepOk n0 ann t with
    | false => rw [b] at e; cases e
    | true =>
      rw [b] at e
      cases c : st s t with
      | none => rw [c] at e; cases e
      | some x =>
        rw [c] at e
        obtain ⟨s2, t2⟩ := x
        simp only [frS_eq] at e ⊢
        exact h _ _ _ e
/-- a step that wants no look -/
theorem oneG_plain {den : Code → Sem Fin} {p : Program} {w : World} {n0 : Nat} {ann : Option Value} {g : SharedT → Thread → Option SharedT} {s s2 r : SharedT} {t t2 : Thread} (h1 : through t = false) (h2 : stepOk n0 ann t = true) (h3 : stepT den p w s t = some (s2, t2)) (e : g s2 t2 = some r) :
    oneG (stepT den p w) n0 ann g s t = some r := by
  unfold oneG
  rw [h1, h2, h3]
  simp only [frS_eq]
  exact e
theorem oneH_ok {den : Code → Sem Fin} {p : Program} {w : World} {n0 : Nat} {ann : Option Value} {f g : SharedT → Thread → Option SharedT} (h : ∀ s t r, f s t = some r → g s t = some r) {s : SharedT} {t : Thread} {r : SharedT} (e : oneH (stepT den p w) den p w n0 ann f s t = some r) :
    oneG (stepT den p w) n0 ann g s t = some r := by
  obtain ⟨T, n, life, gens, drawn, toks, os⟩ := s
  obtain ⟨cur, code, pos, stack⟩ := t
  have no : ∀ c : Sem Fin, (∀ x, c ≠ .pure x) → through ⟨c, code, pos, stack⟩ = false := by
    intro c hc
    unfold through
    cases c <;> first | exact Bool.and_false _ | exact absurd rfl (hc _)
  cases cur with
  | rule tag k => exact oneG_plain (no _ fun _ z => nomatch z) rfl rfl (h _ _ _ e)
  | «at» q k => exact oneG_plain (no _ fun _ z => nomatch z) rfl rfl (h _ _ _ e)
  | point l k => exact oneG_plain (no _ fun _ z => nomatch z) rfl rfl (h _ _ _ e)
  | ask k => exact oneG_plain (no _ fun _ z => nomatch z) rfl rfl (h _ _ _ e)
  | fresh k =>
    have e1 : (frNat (toks + 1) fun m => f ⟨T, n, life, gens, drawn, m, os⟩ ⟨k toks, code, pos, stack⟩) = some r := e
    rw [frNat_eq] at e1
    exact oneG_plain (no _ fun _ z => nomatch z) rfl rfl (h _ _ _ e1)
  | load a q k =>
    have e1 : (match Nat.blt a n with
      | true => match T.get a with
        | some o => match alive o with
          | some u => f ⟨T, n, life, gens, drawn, toks, os⟩ ⟨k u, code, pos, stack⟩
          | none => none
        | none => none
      | false => none) = some r := e
    cases a1 : Nat.blt a n with
    | false => rw [a1] at e1; cases e1
    | true =>
      rw [a1] at e1
      cases a2 : T.get a with
      | none => simp only [a2] at e1; cases e1
      | some o =>
        simp only [a2] at e1
        cases a3 : alive o with
        | none => simp only [a3] at e1; cases e1
        | some u =>
          simp only [a3] at e1
          refine oneG_plain (no _ fun _ z => nomatch z) rfl ?_ (h _ _ _ e1)
          simp only [stepT, a1, a2, a3]
  | alloc o k =>
    have e1 : (match ((T.ins n o).get n).isSome with
      | true => frNat (n + 1) fun m => f ⟨T.ins n o, m, life, gens, drawn, toks, os⟩ ⟨k n, code, pos, stack⟩
      | false => none) = some r := e
    cases a1 : ((T.ins n o).get n).isSome with
    | false => rw [a1] at e1; cases e1
    | true =>
      rw [a1] at e1
      simp only [frNat_eq] at e1
      refine oneG_plain (no _ fun _ z => nomatch z) rfl ?_ (h _ _ _ e1)
      simp only [stepT, a1]
  | call c hh g l k => exact oneG_plain (no _ fun _ z => nomatch z) rfl rfl (h _ _ _ e)
  | update a q f k =>
    cases a0 : (Nat.ble n0 a || a == mainNs || a == cStatics || ann == some (.ref a)) with
    | false => simp only [oneH, a0] at e; cases e
    | true =>
      cases a1 : Nat.blt a n with
      | false => simp only [oneH, a0, a1] at e; cases e
      | true =>
        cases a2 : T.get a with
        | none => simp only [oneH, a0, a1, a2] at e; cases e
        | some o =>
          cases a3 : alive o with
          | none => simp only [oneH, a0, a1, a2, a3] at e; cases e
          | some u =>
            simp only [oneH, a0, a1, a2, a3] at e
            refine oneG_plain (no _ fun _ z => nomatch z) ?_ ?_ (h _ _ _ e)
            · show (_ && (Nat.ble n0 a || a == mainNs || a == cStatics || ann == some (.ref a))) = true
              rw [a0]
              rfl
            · simp only [stepT, a1, a2, a3]
  | pure x =>
    cases x with
    | again c => exact oneG_mono h e
    | done f =>
      cases stack with
      | nil => exact e
      | cons fr rest =>
        cases fr with
        | gen a k l c p => exact oneG_mono h e
        | ret k a b l c p kp => exact oneG_plain rfl rfl rfl (h _ _ _ e)
  | _ => exact oneG_mono h e
theorem goH_ok {den : Code → Sem Fin} {p : Program} {w : World} {n0 : Nat} {ann : Option Value} : ∀ (m : Nat) {s : SharedT} {t : Thread} {r : SharedT}, goH (stepT den p w) den p w n0 ann m s t = some r → goF (stepT den p w) n0 ann m s t = some r
  | 0, _, _, _, e => nomatch (show (none : Option SharedT) = some _ from e)
  | m + 1, s, t, r, e => by
    rw [goF_one]
    exact oneH_ok (fun s t r => goH_ok m) e
/-- the state behind the top, from the boot -/
def endH (M : Nat) (p : Program) (w : World) (os : OsState) : Option SharedT := match putAll (boot_heap w.params).objs.toList .nil 0 with
  | some (t, n) => frNat n fun n0 => goH (stepQ (denQ tabQ) p w) (denQ tabQ) p w n0 (bootAnn w) M (bootT w os (t, n0)) (topStub p)
  | none => none
theorem endH_ok {M : Nat} {p : Program} {w : World} {os : OsState} {r : SharedT} (e : endH M p w os = some r) : endF (stepQ (denQ tabQ) p w) M p w os = some r := by
  unfold endH at e
  unfold endF
  rw [← stepQ_eq] at e ⊢
  cases a : putAll (boot_heap w.params).objs.toList .nil 0 with
  | none => rw [a] at e; cases e
  | some x =>
    rw [a] at e
    obtain ⟨t, n⟩ := x
    simp only [frNat_eq] at e ⊢
    exact goH_ok M e
/-- what is seen behind it -/
theorem endH_map {α : Type} {M : Nat} {p : Program} {w : World} {os : OsState} {F : SharedT → α} {v : α} (e : (endH M p w os).map F = some v) : ∃ r, endF (stepQ (denQ tabQ) p w) M p w os = some r ∧ F r = v := by
  obtain ⟨r, h1, h2⟩ := Option.map_eq_some_iff.mp e
  exact ⟨r, endH_ok h1, h2⟩
end KZ
end

section
set_option Elab.async false
set_option linter.all false
set_option maxRecDepth 100000
/-! the text's statements, by number -/
namespace K0
open PySem
def top (i : Nat) : Stmt := PySem.Challenge.pw_stayopen_k00_errors_and_checks.main.body.getD i (.Pass ⟨0, 0, 0, 0⟩)
def mem (i j : Nat) : Stmt := match top i with
  | .ClassDef _ _ _ b _ _ _ _ _ _ _ => b.getD j (.Pass ⟨0, 0, 0, 0⟩)
  | s => s
end K0
end

section
set_option Elab.async false
set_option linter.all false
set_option maxRecDepth 100000
set_option maxHeartbeats 0
/-! the head: facts by names, one run -/
namespace K0
open PySem L2 KZ

def fn0 : List He.DefD := [⟨("is_integer", none), "is_integer", "is_integer", defArgs (top 4), defBody (top 4), defScope (top 4), [], []⟩, ⟨("is_within", none), "is_within", "is_within", defArgs (top 5), defBody (top 5), defScope (top 5), [], []⟩, ⟨("is_name", none), "is_name", "is_name", defArgs (top 6), defBody (top 6), defScope (top 6), [], []⟩, ⟨("is_place", none), "is_place", "is_place", defArgs (top 7), defBody (top 7), defScope (top 7), [], []⟩, ⟨("copied", none), "copied", "copied", defArgs (top 9), defBody (top 9), defScope (top 9), [], []⟩, ⟨("is_host", none), "is_host", "is_host", defArgs (top 59), defBody (top 59), defScope (top 59), [], []⟩, ⟨("check_hosts", none), "check_hosts", "check_hosts", defArgs (top 66), defBody (top 66), defScope (top 66), [], []⟩, ⟨("need_read_and_keep", none), "need_read_and_keep", "need_read_and_keep", defArgs (top 77), defBody (top 77), defScope (top 77), [], []⟩, ⟨("check_lots", none), "check_lots", "check_lots", defArgs (top 78), defBody (top 78), defScope (top 78), [], []⟩, ⟨("_law_pen", none), "_law_pen", "_law_pen", defArgs (top 161), defBody (top 161), defScope (top 161), [], []⟩, ⟨("_law_draw", none), "_law_draw", "_law_draw", defArgs (top 162), defBody (top 162), defScope (top 162), [], []⟩, ⟨("_law_one", none), "_law_one", "_law_one", defArgs (top 163), defBody (top 163), defScope (top 163), [], []⟩]
def fn1 : List He.DefD := [⟨("_law_value", none), "_law_value", "_law_value", defArgs (top 164), defBody (top 164), defScope (top 164), [], []⟩, ⟨("_law_is_whole", none), "_law_is_whole", "_law_is_whole", defArgs (top 165), defBody (top 165), defScope (top 165), [], []⟩, ⟨("_law_checks_right", none), "_law_checks_right", "_law_checks_right", defArgs (top 166), defBody (top 166), defScope (top 166), [], []⟩, ⟨("_law_same", none), "_law_same", "_law_same", defArgs (top 167), defBody (top 167), defScope (top 167), [], []⟩, ⟨("_law_values_kept", none), "_law_values_kept", "_law_values_kept", defArgs (top 168), defBody (top 168), defScope (top 168), [], []⟩, ⟨("_law_apart", none), "_law_apart", "_law_apart", defArgs (top 169), defBody (top 169), defScope (top 169), [], []⟩, ⟨("_law_is_raised", none), "_law_is_raised", "_law_is_raised", defArgs (top 170), defBody (top 170), defScope (top 170), [], []⟩, ⟨("law", none), "law", "law", defArgs (top 171), defBody (top 171), defScope (top 171), [], []⟩, ⟨("BadName", some "__init__"), "__init__", "BadName.__init__", defArgs (mem 12 0), defBody (mem 12 0), defScope (mem 12 0), [], []⟩, ⟨("BadNumber", some "__init__"), "__init__", "BadNumber.__init__", defArgs (mem 13 0), defBody (mem 13 0), defScope (mem 13 0), [], []⟩, ⟨("BadBook", some "__init__"), "__init__", "BadBook.__init__", defArgs (mem 14 0), defBody (mem 14 0), defScope (mem 14 0), [], []⟩, ⟨("BadQuota", some "__init__"), "__init__", "BadQuota.__init__", defArgs (mem 15 0), defBody (mem 15 0), defScope (mem 15 0), [], []⟩]
def fn2 : List He.DefD := [⟨("BadRing", some "__init__"), "__init__", "BadRing.__init__", defArgs (mem 16 0), defBody (mem 16 0), defScope (mem 16 0), [], []⟩, ⟨("BadChange", some "__init__"), "__init__", "BadChange.__init__", defArgs (mem 17 0), defBody (mem 17 0), defScope (mem 17 0), [], []⟩, ⟨("BadLots", some "__init__"), "__init__", "BadLots.__init__", defArgs (mem 18 0), defBody (mem 18 0), defScope (mem 18 0), [], []⟩, ⟨("BadCare", some "__init__"), "__init__", "BadCare.__init__", defArgs (mem 19 0), defBody (mem 19 0), defScope (mem 19 0), [], []⟩, ⟨("BadStep", some "__init__"), "__init__", "BadStep.__init__", defArgs (mem 20 0), defBody (mem 20 0), defScope (mem 20 0), [], []⟩, ⟨("BadAsk", some "__init__"), "__init__", "BadAsk.__init__", defArgs (mem 21 0), defBody (mem 21 0), defScope (mem 21 0), [], []⟩, ⟨("BadPlayer", some "__init__"), "__init__", "BadPlayer.__init__", defArgs (mem 22 0), defBody (mem 22 0), defScope (mem 22 0), [], []⟩, ⟨("BadText", some "__init__"), "__init__", "BadText.__init__", defArgs (mem 23 0), defBody (mem 23 0), defScope (mem 23 0), [], []⟩, ⟨("BadCommand", some "__init__"), "__init__", "BadCommand.__init__", defArgs (mem 24 0), defBody (mem 24 0), defScope (mem 24 0), [], []⟩, ⟨("NoHost", some "__init__"), "__init__", "NoHost.__init__", defArgs (mem 25 0), defBody (mem 25 0), defScope (mem 25 0), [], []⟩, ⟨("NoLetter", some "__init__"), "__init__", "NoLetter.__init__", defArgs (mem 26 0), defBody (mem 26 0), defScope (mem 26 0), [], []⟩, ⟨("NoClient", some "__init__"), "__init__", "NoClient.__init__", defArgs (mem 27 0), defBody (mem 27 0), defScope (mem 27 0), [], []⟩]
def fn3 : List He.DefD := [⟨("NoEpoch", some "__init__"), "__init__", "NoEpoch.__init__", defArgs (mem 28 0), defBody (mem 28 0), defScope (mem 28 0), [], []⟩, ⟨("Clashing", some "__init__"), "__init__", "Clashing.__init__", defArgs (mem 29 0), defBody (mem 29 0), defScope (mem 29 0), [], []⟩, ⟨("TooMany", some "__init__"), "__init__", "TooMany.__init__", defArgs (mem 31 0), defBody (mem 31 0), defScope (mem 31 0), [], []⟩, ⟨("Ring", some "__init__"), "__init__", "Ring.__init__", defArgs (mem 65 0), defBody (mem 65 0), defScope (mem 65 0), [], []⟩, ⟨("Player", some "__init__"), "__init__", "Player.__init__", defArgs (mem 155 0), defBody (mem 155 0), defScope (mem 155 0), [], []⟩, ⟨("Lots", some "__init__"), "__init__", "Lots.__init__", defArgs (mem 75 0), defBody (mem 75 0), defScope (mem 75 0), [.non, .non], []⟩]
def fns : List He.DefD := fn0 ++ fn1 ++ fn2 ++ fn3
def fa0 : List He.Fa := [.glo "is_integer", .glo "is_within", .glo "is_name", .glo "is_place", .glo "copied", .glo "is_host", .glo "check_hosts", .glo "need_read_and_keep", .glo "check_lots", .glo "_law_pen", .glo "_law_draw", .glo "_law_one", .glo "_law_value", .glo "_law_is_whole", .glo "_law_checks_right", .glo "_law_same", .glo "_law_values_kept", .glo "_law_apart", .glo "_law_is_raised", .glo "law", .glo "BadName", .glo "BadNumber", .glo "BadBook", .glo "BadQuota", .glo "BadRing", .glo "BadChange", .glo "BadLots", .glo "BadCare", .glo "BadStep", .glo "BadAsk"]
def fa1 : List He.Fa := [.glo "BadPlayer", .glo "BadText", .glo "BadCommand", .glo "NoHost", .glo "NoLetter", .glo "NoClient", .glo "NoEpoch", .glo "Clashing", .glo "Nothing", .glo "TooMany", .glo "OpenError", .glo "Ring", .glo "Verdict", .glo "Player", .glo "Store", .glo "Lots", .free "isinstance", .free "int", .free "bool", .free "str", .free "len", .free "all", .free "list", .free "tuple", .free "dict", .free "abs", .free "range", .free "repr", .free "enumerate", .free "ValueError"]
def fa2 : List He.Fa := [.int "MOST_PLACE" 999999999, .int "MOST_LOT" 5, .str "LETTERS" "abcdefghijklmnopqrstuvwxyz", .mkr "Ring", .mkr "Player", .mkr "Lots", .exc "Nothing", .exm "BadRing" "OpenError" true, .exm "BadPlayer" "OpenError" true, .exm "BadLots" "OpenError" true]
def fas : List He.Fa := fa0 ++ fa1 ++ fa2
def nm0 : List Str := ["_wall", "LETTERS", "MOST_PLACE", "is_integer", "is_within", "is_name", "is_place", "copied", "OpenError", "BadName", "BadNumber", "BadBook", "BadQuota", "BadRing", "BadChange", "BadLots", "BadCare", "BadStep", "BadAsk", "BadPlayer", "BadText", "BadCommand", "NoHost", "NoLetter", "NoClient", "NoEpoch", "Clashing", "Nothing", "TooMany", "is_word"]
def nm1 : List Str := ["key_of", "key_words", "states_text", "state_text", "entry_text", "told_names", "free_letter", "behind_in", "table_of", "row_behind", "is_parting", "pair_behind", "paired_rows", "MOST_STATES", "MOST_NAMES", "Book", "classes", "paired_books", "check_book", "common_states", "common_behind", "is_host", "is_change", "is_change_of", "classes_behind", "MOST_HOSTS", "Ring", "check_hosts", "MOST_CHANGES", "need_book"]
def nm2 : List Str := ["need_ring", "need_key", "need_changes", "MOST_LOT", "Lots", "need_lots", "need_read_and_keep", "check_lots", "Kept", "nothing", "is_greater", "greatest", "CLIENT", "client_of", "present_ask", "begin_ask", "begin_round", "go_on", "know", "drop_ask", "come_to_client", "note", "end_first_round", "stamp_put", "end_ask", "stretches_to", "joined", "copies", "met", "hosts_from"]
def nm3 : List Str := ["hosts_met", "places_taken", "arcs", "arcs_of", "Host", "host_with", "keeping", "is_epoch_settled", "begin_epoch", "come_to_keeper", "note_fenced", "note_swept", "choose_if_shut", "are_shut", "kepts_told", "send_sweeps", "settle", "send_anew", "do_step", "do_letter", "come_to_host", "Letter", "Play", "MOST_CLIENTS", "MOST_KEYS", "MOST_ASKS", "MOST_EPOCHS", "check_step", "check_ask", "check_new_client"]
def nm4 : List Str := ["check_asking", "check_letter", "check_fall", "check_begin", "is_step", "is_asking", "Store", "need_cares", "MOST_STEPS", "Asking", "Player", "need_epoch", "need_client", "Verdict", "_law_pen", "_law_draw", "_law_one", "_law_value", "_law_is_whole", "_law_checks_right", "_law_same", "_law_values_kept", "_law_apart", "_law_is_raised"]
def nms : List Str := nm0 ++ nm1 ++ nm2 ++ nm3 ++ nm4
def efs : List (Str × List Str) := [("BadName", ["value"]), ("BadNumber", ["value"]), ("BadBook", ["part"]), ("BadQuota", ["part"]), ("BadRing", ["part"]), ("BadChange", ["value"]), ("BadLots", ["part"]), ("BadCare", ["value"]), ("BadStep", ["value"]), ("BadAsk", ["part"]), ("BadPlayer", ["part"]), ("BadText", ["line", "word"]), ("BadCommand", ["word"]), ("NoHost", ["place"]), ("NoLetter", ["number"]), ("NoClient", ["name"]), ("NoEpoch", ["number"]), ("Clashing", ["part"]), ("TooMany", ["what", "most"])]
def ens : List Str := ["BadName", "BadNumber", "BadBook", "BadQuota", "BadRing", "BadChange", "BadLots", "BadCare", "BadStep", "BadAsk", "BadPlayer", "BadText", "BadCommand", "NoHost", "NoLetter", "NoClient", "NoEpoch", "Clashing", "Nothing", "TooMany"]
def kitPs (K : PySem.W.Frag) (cs : List Addr) : Bool := cs.zipIdx.all fun p => cs.zipIdx.all fun q => decide (PySem.W.kitOne K (.ref p.1) (.ref q.1) = some (decide (p.2 = q.2)))
def upB (K : PySem.W.Frag) (cs : List Addr) (o : Addr) : Bool := cs.all fun c => decide (PySem.W.kitOne K (.ref c) (.ref o) = some true) && decide (PySem.W.kitOne K (.ref c) (.type "ValueError") = some true)
def exB (K : PySem.W.Frag) : Bool := (efs.all fun e => errI K (He.ga K e.1) e.2) && (errB K (He.ga K "Nothing") && (upB K (ens.map (He.ga K)) (He.ga K "OpenError") && kitPs K (ens.map (He.ga K))))
def exC (K : PySem.W.Frag) : Bool := exB K && (decide (PySem.W.kitOne K (.ref (He.ga K "BadName")) (.ref (He.ga K "Verdict")) = some false) && decide (PySem.W.kitOne K (.type "NoneType") (.ref (He.ga K "Store")) = some false))
abbrev R : PySem.W.OpenRow := PySem.W.OpenLaw.row PySem.Challenge.rw_stayopen_k00_errors_and_checks
abbrev tfs : List He.Defn := [("law", none)]
def selF0 : List Str := ["is_integer", "is_within", "is_name", "is_place", "copied", "is_host", "check_hosts", "need_read_and_keep", "check_lots", "_law_pen", "_law_draw", "_law_one", "_law_value", "_law_is_whole", "_law_checks_right", "_law_same", "_law_values_kept", "_law_apart", "_law_is_raised", "law"]
def selF : List Str := selF0
def selC0 : List Str := ["BadName", "BadNumber", "BadBook", "BadQuota", "BadRing", "BadChange", "BadLots", "BadCare", "BadStep", "BadAsk", "BadPlayer", "BadText", "BadCommand", "NoHost", "NoLetter", "NoClient", "NoEpoch", "Clashing", "Nothing", "TooMany"]
def selC1 : List Str := ["OpenError", "Verdict", "Ring", "Player", "Store", "Lots"]
def selC : List Str := selC0 ++ selC1
abbrev hk : PySem.W.Hook := hookY (asZ selF selC) fas fns [] tfs exC
def ob (s : PySem.W.SharedT) : He.AlX := obsY (asZ selF selC) fas fns [] tfs exC (HandSHeadRun.getT s)
theorem ob_eq (s : PySem.W.SharedT) : ob s = hk.obs s.abs := obsY_eq _ _ _ _ _ _ (HandSHeadRun.getT_eq s)
abbrev Q0 : Program := PySem.W.view R.prog [171]
open PySem.W PySem.Calls PyProof.Rows in
noncomputable abbrev sawL (b : Bool) (w : World) (s : PySem.W.SharedT) : Bool := HandSHeadRun.looksF R.prog (boot_heap (told b w).params) s.abs
open PySem.W PySem.Calls PyProof.Rows in
noncomputable abbrev sawS (s : PySem.W.SharedT) := HandSHeadRun.seenQ Q0 nms (importedModules R.prog.main.body) (fun s => xlAt Q0 [] s && recOk R.toRowW.records s) s.abs
theorem lookT (w : World) (os : OsState) : (endH 20000 R.prog (told true w) os).map (sawL true w) = some true := by
  kernel_rfl
theorem lookF (w : World) (os : OsState) : (endH 20000 R.prog (told false w) os).map (sawL false w) = some true := by
  kernel_rfl
theorem seenT (w : World) (os : OsState) : (endH 20000 R.prog (told true w) os).map sawS = some (PySem.W.openGood Q0 nms) := by
  kernel_rfl
theorem seenF (w : World) (os : OsState) : (endH 20000 R.prog (told false w) os).map sawS = some (PySem.W.openGood Q0 nms) := by
  kernel_rfl
theorem obT (w : World) (os : OsState) : (endH 20000 R.prog (told true w) os).map ob = some (hk.val (told true w)) := by
  kernel_rfl
theorem obF (w : World) (os : OsState) : (endH 20000 R.prog (told false w) os).map ob = some (hk.val (told false w)) := by
  kernel_rfl
theorem runB {b : Bool} {w : World} (l : ∀ os, (endH 20000 R.prog (told b w) os).map (sawL b w) = some true) (s : ∀ os, (endH 20000 R.prog (told b w) os).map sawS = some (PySem.W.openGood Q0 nms)) (o : ∀ os, (endH 20000 R.prog (told b w) os).map ob = some (hk.val (told b w))) :
    HandSHeadRun.RunEq R Q0 hk ob 20000 nms (told b w) := by
  intro os
  obtain ⟨r1, h1, e1⟩ := endH_map (l os)
  obtain ⟨r2, h2, e2⟩ := endH_map (s os)
  obtain ⟨r3, h3, e3⟩ := endH_map (o os)
  obtain rfl := Option.some.inj (h1.symm.trans h2)
  obtain rfl := Option.some.inj (h1.symm.trans h3)
  rw [h1]
  exact congrArg some (Prod.ext e1 (Prod.ext e2 e3))
theorem run (w : World) : HandSHeadRun.RunEq R Q0 hk ob 20000 nms w := by
  cases h : w.params.followText "special-get-raises" with
  | true =>
    have e := runB (b := true) (w := w) (lookT w) (seenT w) (obT w)
    rw [told_eq h] at e
    exact e
  | false =>
    have e := runB (b := false) (w := w) (lookF w) (seenF w) (obF w)
    rw [told_eq h] at e
    exact e
end K0
end

section
set_option Elab.async false
set_option linter.all false
set_option maxRecDepth 100000
set_option maxHeartbeats 4000000
/-! the checks -/
namespace K0
open PySem L2 KZ
abbrev sIsInt : Stmt := top 4
abbrev sIsWithin : Stmt := top 5
abbrev sIsName : Stmt := top 6
abbrev sIsPlace : Stmt := top 7

theorem Dv.mono {K : PySem.W.Frag} {H H' : Hp} (e : Same H H') {v : V} {d : PyData} (h : Dv K H v d) : Dv K H' v d := by
  have sT : ∀ {a xs}, SqT K H a xs → SqT K H' a xs := fun h => by
    rcases h with (h | ⟨o, h⟩) | h
    · exact .inl (.inl (e _ _ h))
    · exact .inl (.inr ⟨o, e _ _ h⟩)
    · exact .inr h
  have rD : ∀ {a u}, Rd H a u → Rd H' a u := fun h => by
    rcases h with h | ⟨o, h⟩
    · exact .inl (e _ _ h)
    · exact .inr ⟨o, e _ _ h⟩
  refine Dv.rec (motive_1 := fun v d _ => Dv K H' v d) (motive_2 := fun v d _ => Dvs K H' v d) (motive_3 := fun v d _ => Dks K H' v d) .non .bl .int .str ?_ ?_ ?_ .nil ?_ .nil ?_ h
  · intro a xs ds h1 _ i; exact .lst (e.seq h1) i
  · intro a xs ds h1 _ i; exact .tup (sT h1) i
  · intro a xs ds h1 _ i; exact .dic (rD h1) i
  · intro v vs d ds _ _ i j; exact .cons i j
  · intro k v kvs d ps _ _ i j; exact .cons i j
/-- the name of a datum's class -/
def tyN : PyData → String
  | .none => "NoneType" | .bool _ => "bool" | .int _ => "int" | .str _ => "str" | .list _ => "list" | .tuple _ => "tuple" | .dict _ => "dict"
theorem Dv.ty {K : PySem.W.Frag} {H : Hp} {v : V} {d : PyData} (h : Dv K H v d) : TyX K H v (.type (tyN d)) := by
  cases h with
  | non => exact .base .non
  | bl b => exact .base (.bl b)
  | int i => exact .base (.int i)
  | str x => exact .base (.str x)
  | lst hs _ =>
    rcases hs with (q | ⟨o, q⟩) | ⟨o, its, n, q, c, _⟩
    · exact .base (.lst q)
    · exact .base (.frz q)
    · exact .kList q c
  | tup hs _ =>
    rcases hs with (q | ⟨o, q⟩) | ⟨o, its, n, q, c, _⟩
    · exact .base (.tup q)
    · exact .fTuple q
    · exact .kTuple q c
  | dic hs _ =>
    rcases hs with q | ⟨o, q⟩
    · exact .base (.dK q)
    · exact .fDict q
def isT (t : String) : PyData → Bool := fun d => match t, d with
  | "int", .int _ => true
  | "int", .bool _ => true
  | "bool", .bool _ => true
  | "str", .str _ => true
  | "list", .list _ => true
  | "tuple", .tuple _ => true
  | "dict", .dict _ => true
  | _, _ => false
/-- isinstance(x, c) of data, c a built-in class -/
def rIsD (K : PySem.W.Frag) (c : String) : List V → Hp → VK → Prop := fun xs H Q => ∃ (v : V) (d : PyData), xs = [v, .ty c] ∧ Dv K H v d ∧ Q (.bl (isT c d)) H
def clsL : List String := ["int", "bool", "str", "list", "tuple", "dict"]
def isTN (c t : String) : Bool := decide (t = c) || (decide (c = "int") && decide (t = "bool"))
theorem kit_tab : ∀ c ∈ clsL, ∀ t ∈ ["NoneType", "bool", "int", "str", "list", "tuple", "dict"], kitB t c = some (isTN c t) := by decide +kernel
theorem isT_tab : ∀ c ∈ clsL, isTN c "NoneType" = isT c .none ∧ (∀ b, isTN c "bool" = isT c (.bool b)) ∧ (∀ i, isTN c "int" = isT c (.int i)) ∧ (∀ x, isTN c "str" = isT c (.str x)) ∧ (∀ l, isTN c "list" = isT c (.list l)) ∧ (∀ l, isTN c "tuple" = isT c (.tuple l)) ∧ ∀ l, isTN c "dict" = isT c (.dict l) := by
  intro c hc
  simp only [clsL, List.mem_cons, List.not_mem_nil, or_false] at hc
  rcases hc with rfl | rfl | rfl | rfl | rfl | rfl <;> exact ⟨rfl, fun _ => rfl, fun _ => rfl, fun _ => rfl, fun _ => rfl, fun _ => rfl, fun _ => rfl⟩
theorem kit_d {K : PySem.W.Frag} {c : String} (hc : c ∈ clsL) (d : PyData) : PySem.W.kitOne K (.type (tyN d)) (.type c) = some (isT c d) := by
  obtain ⟨h1, h2, h3, h4, h5, h6, h7⟩ := isT_tab c hc
  have k := kit_tab c hc
  refine kit_ty ?_
  cases d with
  | none => rw [← h1]; exact k "NoneType" (by decide)
  | bool b => rw [← h2]; exact k "bool" (by decide)
  | int i => rw [← h3]; exact k "int" (by decide)
  | str x => rw [← h4]; exact k "str" (by decide)
  | list x => rw [← h5]; exact k "list" (by decide)
  | tuple x => rw [← h6]; exact k "tuple" (by decide)
  | dict x => rw [← h7]; exact k "dict" (by decide)
theorem call_isD {X : Cx} {c : String} (hc : c ∈ clsL := by decide) : CallR X (.builtin "isinstance") (rIsD X.K c) := by
  intro pins s σ H xs us Q I r h
  obtain ⟨v, d, rfl, hd, q⟩ := h
  exact call_isi pins s σ H _ us Q I r ⟨v, .ty c, _, _, _, rfl, .ty c, Dv.ty hd, kit_d hc d, q⟩

structure B0 (mg : Str → Option Value) : Prop where
  isi : mg "isinstance" = none
  int : mg "int" = none
  bool : mg "bool" = none
  str : mg "str" = none
  len : mg "len" = none
  all : mg "all" = none
  list : mg "list" = none
  tuple : mg "tuple" = none
  dict : mg "dict" = none
def isInt : PyData → Bool
  | .int _ => true
  | _ => false
def spIsInt (K : PySem.W.Frag) : Sp := fun vs H Q _ => ∃ v d, vs = [v] ∧ Dv K H v d ∧ Q (.bl (isInt d)) H
section
variable {P : Program} {w : World} {K : PySem.W.Frag} {mg : Str → Option Value} {base : Heap}
theorem scIsInt : FnScope ["value"] ["value"] (defScope sIsInt) := ⟨rfl, rfl, rfl, by decide +kernel, rfl, by decide +kernel, by decide +kernel⟩
theorem ok_is_integer {f : Addr} {fd : FuncData} (F : Fun K "is_integer" "is_integer" sIsInt f fd) (T : B0 mg) : FnOk P w K mg base CX0 1 f fd ["value"] (spIsInt K) := by
  refine F.ok scIsInt (fun vs H Q E h => ?_) (fun cdv A outer s H vs Q E hr h => ?_)
  · obtain ⟨v, d, rfl, _⟩ := h
    rfl
  · obtain ⟨v, d, rfl, hd, q⟩ := h
    refine ⟨_, pss_one (ps_ret (pe_and (pe_callB (call_isD (c := "int")) (by rfl) T.isi (by decide +kernel) (pa_cons (pv 0) (pa_cons (pe_bltn (v := .ty "int") (by rfl) T.int (by decide +kernel) rfl) pa_nil)))
      (pe_one (pe_not (pe_callB (call_isD (c := "bool")) (by rfl) T.isi (by decide +kernel) (pa_cons (pv 0) (pa_cons (pe_bltn (v := .ty "bool") (by rfl) T.bool (by decide +kernel) rfl) pa_nil))))))), ?_⟩
    refine ⟨v, rfl, v, d, rfl, hd, _, rfl, ?_⟩
    cases e : isT "int" d with
    | false =>
      refine iteF ?_
      cases d <;> first | exact q | cases e
    | true =>
      refine iteT ⟨v, rfl, v, d, rfl, hd, _, rfl, ?_⟩
      cases d <;> first | exact q | cases e
end
end K0
end

section
set_option Elab.async false
set_option linter.all false
set_option maxRecDepth 100000
set_option maxHeartbeats 4000000
/-! the checks, further -/
namespace K0
open PySem L2 KZ
abbrev lets : Str := "abcdefghijklmnopqrstuvwxyz"
def within (l m : Int) : PyData → Bool
  | .int i => decide (l ≤ i) && decide (i ≤ m)
  | _ => false
def isName : PyData → Bool
  | .str x => decide (1 ≤ x.length) && decide (x.length ≤ 8) && x.cps.toList.all fun c => decide (c ∈ lets.cps.toList)
  | _ => false
/-- the program's constants and defs, as the top has left them -/
structure C0 (mg : Str → Option Value) (fI fW : Addr) : Prop where
  lets : ∃ t, mg "LETTERS" = some (.str lets t)
  most : ∃ t, mg "MOST_PLACE" = some (.int 999999999 t)
  gI : mg "is_integer" = some (.ref fI)
  gW : mg "is_within" = some (.ref fW)
def spWithin (K : PySem.W.Frag) : Sp := fun vs H Q _ => ∃ v d l m, vs = [v, .int l, .int m] ∧ Dv K H v d ∧ Q (.bl (within l m d)) H
def spPlace (K : PySem.W.Frag) : Sp := fun vs H Q _ => ∃ v d, vs = [v] ∧ Dv K H v d ∧ Q (.bl (within 0 999999999 d)) H
/-- the heap may have grown -/
def spName (K : PySem.W.Frag) : Sp := fun vs H Q _ => ∃ v d, vs = [v] ∧ Dv K H v d ∧ (∀ x, d = .str x → x.length ≤ 1000) ∧ ∀ H', Same H H' → Q (.bl (isName d)) H'
theorem yes_go {σ : L2.St} {H : Hp} {A B : Hp → Prop} (h : A H) : tYes σ H (fun b H3 => if b = true then A H3 else B H3) := by
  show (if true = true then A H else B H)
  rw [if_pos rfl]
  exact h
theorem same_new {H : Hp} {p : Addr} {o : HO} (h : H p = none) : Same H (upd H p o) := fun b u e => by
  rw [upd_ne (ne_of_none e h)]
  exact e
section
variable {P : Program} {w : World} {K : PySem.W.Frag} {mg : Str → Option Value} {base : Heap} {fI fW : Addr} {dI dW : FuncData}
theorem scWithin : FnScope ["value", "least", "most"] ["value", "least", "most"] (defScope sIsWithin) := ⟨rfl, rfl, rfl, by decide +kernel, rfl, by decide +kernel, by decide +kernel⟩
theorem ok_is_within {f : Addr} {fd : FuncData} (F : Fun K "is_within" "is_within" sIsWithin f fd) (T : B0 mg) (U : C0 mg fI fW) (FI : Fun K "is_integer" "is_integer" sIsInt fI dI) (bI : Binds K dI ["value"] []) : FnOk P w K mg base CX0 2 f fd ["value", "least", "most"] (spWithin K) := by
  have GI : FnOk P w K mg base CX0 1 fI dI ["value"] (spIsInt K) := ok_is_integer FI T
  refine F.ok scWithin (fun vs H Q E h => ?_) (fun cdv A outer s H vs Q E hr h => ?_)
  · obtain ⟨v, d, l, m, rfl, _⟩ := h
    rfl
  · obtain ⟨v, d, l, m, rfl, hd, q⟩ := h
    refine ⟨_, pss_one (ps_ret (pe_and (pe_call GI hr (by rfl) U.gI FI.kp bI .nil pass0 (pa_cons (pv 0) pa_nil)) (pe_one (pe_chain op_le op_le (pv 1) (pv 0) (pv 2))))), ?_⟩
    refine ⟨v, rfl, v, d, rfl, hd, _, rfl, ?_⟩
    cases d with
    | int i =>
      refine iteT ?_
      cases hd
      refine ⟨_, rfl, _, rfl, l, i, rfl, rfl, _, rfl, ?_⟩
      refine ite2 (fun z => ?_) (fun z => ?_)
      · refine ⟨_, rfl, i, m, rfl, rfl, ?_⟩
        have e : within l m (.int i) = decide (i ≤ m) := by simp only [within, z, Bool.true_and]
        rw [e] at q
        exact q
      · have e : within l m (.int i) = false := by simp only [within, eq_false_of_ne_true z, Bool.false_and]
        rw [e] at q
        exact q
    | _ => exact iteF q
theorem scPlace : FnScope ["value"] ["value"] (defScope sIsPlace) := ⟨rfl, rfl, rfl, by decide +kernel, rfl, by decide +kernel, by decide +kernel⟩
theorem ok_is_place {f : Addr} {fd : FuncData} (F : Fun K "is_place" "is_place" sIsPlace f fd) (T : B0 mg) (U : C0 mg fI fW) (FI : Fun K "is_integer" "is_integer" sIsInt fI dI) (bI : Binds K dI ["value"] []) (FW : Fun K "is_within" "is_within" sIsWithin fW dW)
    (bW : Binds K dW ["value", "least", "most"] []) : FnOk P w K mg base CX0 3 f fd ["value"] (spPlace K) := by
  have GW : FnOk P w K mg base CX0 2 fW dW ["value", "least", "most"] (spWithin K) := ok_is_within FW T U FI bI
  obtain ⟨t, hm⟩ := U.most
  refine F.ok scPlace (fun vs H Q E h => ?_) (fun cdv A outer s H vs Q E hr h => ?_)
  · obtain ⟨v, d, rfl, _⟩ := h
    rfl
  · obtain ⟨v, d, rfl, hd, q⟩ := h
    refine ⟨_, pss_one (ps_ret (pe_call GW hr (by rfl) U.gW FW.kp bW .nil pass0 (pa_cons (pv 0) (pa_cons pe_int (pa_cons (pe_glob (v := .int 999999999) (by rfl) hm ⟨_, rfl⟩) pa_nil))))), ?_⟩
    exact ⟨v, rfl, v, d, 0, 999999999, rfl, hd, q⟩
theorem scName : FnScope ["value", "letter"] ["value"] (defScope sIsName) := ⟨rfl, rfl, rfl, by decide +kernel, rfl, by decide +kernel, by decide +kernel⟩
theorem ok_is_name {f : Addr} {fd : FuncData} (F : Fun K "is_name" "is_name" sIsName f fd) (T : B0 mg) (U : C0 mg fI fW) : FnOk P w K mg base CX0 1 f fd ["value"] (spName K) := by
  obtain ⟨t, hl⟩ := U.lets
  refine F.ok scName (fun vs H Q E h => ?_) (fun cdv A outer s H vs Q E hr h => ?_)
  · obtain ⟨v, d, rfl, _⟩ := h
    rfl
  · obtain ⟨v, d, rfl, hd, hsz, q⟩ := h
    refine ⟨_, pss_cons (ps_if (PW.pt (pw_or (pt_not (pt_val (pe_callB (call_isD (c := "str")) (by rfl) T.isi (by decide +kernel) (pa_cons (pv 0) (pa_cons (pe_bltn (v := .ty "str") (by rfl) T.str (by decide +kernel) rfl) pa_nil)))))
        (pw_or1 (pt_not (pt_chain op_le op_le pe_int (pe_callB call_len (by rfl) T.len PySem.boot_len (pa_cons (pv 0) pa_nil)) pe_int)))))
        (pss_one (ps_ret pe_bl)) pss_nil)
      (pss_one (ps_ret (pe_callB (cr_all rfl) (by rfl) T.all (by decide +kernel) (pa_cons (pe_lc (own := [("letter", 1)]) (g := gName 1) (tt := tYes) (by rfl) scName.nd (pi_str (pv 0))
        (blkOk_by (own := [("letter", 1)]) (N := ["value", "letter"]) (sc := defScope sIsName) (by decide +kernel)) (fun _ _ _ _ _ => pg_name (i := 1) scName.nd rfl (Or.inl rfl)) (fun _ _ _ _ _ => pts_nil)
        (fun _ _ _ _ _ => pe_cmpR op_in_sign (pv 1) (pe_glob (v := .str lets) (by rfl) hl ⟨_, rfl⟩) (by rfl))) pa_nil)))), ?_⟩
    refine ⟨v, rfl, v, d, rfl, hd, _, rfl, ?_⟩
    cases d with
    | str x =>
      cases hd
      have hx := hsz x rfl
      refine iteF ⟨_, rfl, .str x, x.length, rfl, ⟨Nat.le_trans hx (by decide), rfl⟩, 1, (x.length : Int), rfl, rfl, _, rfl, ?_⟩
      refine ite2 (fun h1 => ⟨_, _, rfl, rfl, _, rfl, ?_⟩) (fun h1 => ⟨_, rfl, ?_⟩)
      · have g1 : 1 ≤ x.length := by have := of_decide_eq_true h1; omega
        by_cases h2 : x.length ≤ 8
        · rw [show decide ((x.length : Int) ≤ 8) = true from decide_eq_true (by omega)]
          refine iteF ⟨.str x, rfl, x, rfl, fun D hD => lc_it walk_str (fun i H' => H' = upd H D (.lst ((x.cps.toList.take i).map fun c => V.bl (decide (c ∈ lets.cps.toList))))) (by simp) (fun _ _ _ _ => True.intro) ?_ ?_⟩
          · rintro i y H1 H2 hi rfl ⟨rfl, c, hc, rfl⟩
            have hlt : i < x.cps.toList.length := by simpa using hi
            refine ⟨rfl, ?_⟩
            refine yes_go ?_
            refine ⟨_, rfl, c, lets, rfl, rfl, _, upd_same, ?_, ?_⟩
            · rw [List.length_map, List.length_take]
              have : x.cps.toList.length = x.length := by simp [Str.length]
              exact Nat.lt_of_le_of_lt (Nat.min_le_left _ _) (Nat.lt_of_lt_of_le hlt (by rw [this]; exact Nat.le_trans hx (by decide)))
            · rw [upd_upd]
              congr 2
              have e : x.cps.toList[i]? = some c := by simpa using hc
              rw [List.take_add_one, e]
              simp
          · rintro H1 rfl
            refine ⟨D, x.cps.toList.map fun c => decide (c ∈ lets.cps.toList), rfl, SqL.of ?_, ?_⟩
            · rw [upd_same, List.map_map, List.take_of_length_le (by simp)]
              rfl
            · have e : isName (.str x) = (x.cps.toList.map fun c => decide (c ∈ lets.cps.toList)).all id := by
                simp [isName, g1, h2, List.all_map]
              rw [← e]
              exact q _ (same_new hD)
        · rw [show decide ((x.length : Int) ≤ 8) = false from decide_eq_false (by omega)]
          have e : isName (.str x) = false := by simp [isName, h2]
          rw [e] at q
          exact iteT (q H (Same.refl H))
      · have e : isName (.str x) = false := by
          have g1 : ¬ 1 ≤ x.length := fun z => h1 (decide_eq_true (by omega))
          simp [isName, g1]
        rw [e] at q
        exact iteT (q H (Same.refl H))
    | _ => exact iteT (iteT (q H (Same.refl H)))
end
end K0
end

section
set_option Elab.async false
set_option linter.all false
set_option maxRecDepth 100000
set_option maxHeartbeats 4000000
/-! copied -/
namespace K0
open PySem L2 KZ
abbrev ka : Str := "a"
abbrev kvA : List (Key × V) := [(Sum.inr ka, V.int 3)]
abbrev sCopied : Stmt := top 9
/-- what may be copied: so deep -/
def Cp : Nat → PyData → Prop
  | _, .none => True
  | _, .bool _ => True
  | _, .int _ => True
  | _, .str _ => True
  | n + 1, .list ds => ds.length ≤ 100 ∧ ∀ d ∈ ds, Cp n d
  | n + 1, .tuple ds => ds.length ≤ 100 ∧ ∀ d ∈ ds, Cp n d
  | _ + 1, .dict ps => ps = [(.str "a", .int 3)]
  | 0, _ => False
def NoFrz (G : Hp) : Prop := ∀ b o u, G b ≠ some (.frz o u)
/-- G' holds more than G, and nothing of what H had beside G -/
def Beside (H G G' : Hp) : Prop := ∀ b, H b ≠ none → G b = none → G' b = none
def spCopied (n : Nat) (K : PySem.W.Frag) : Sp := fun vs H Q _ => ∃ v d G, vs = [v] ∧ Cp n d ∧ Same G H ∧ NoFrz G ∧ Dv K G v d ∧
  ∀ v' G' H', Same G G' → NoFrz G' → Beside H G G' → Same G' H' → Same H H' → Dv K G' v' d → Q v' H'
theorem noFrz_upd {G : Hp} {p : Addr} {o : HO} (h : NoFrz G) (ho : ∀ x u, o ≠ .frz x u) : NoFrz (upd G p o) := fun b x u e => by
  by_cases hb : b = p
  · rw [hb, upd_same] at e
    exact ho x u (Option.some.inj e)
  · rw [upd_ne hb] at e
    exact h b x u e
theorem Dvs.len {K : PySem.W.Frag} {H : Hp} : ∀ {vs : List V} {ds : List PyData}, Dvs K H vs ds → vs.length = ds.length
  | _, _, .nil => rfl
  | _, _, .cons _ t => congrArg (· + 1) (Dvs.len t)
theorem Dvs.get {K : PySem.W.Frag} {H : Hp} : ∀ {vs : List V} {ds : List PyData} {i : Nat} {v : V}, Dvs K H vs ds → vs[i]? = some v → ∃ d, ds[i]? = some d ∧ Dv K H v d
  | _, _, i, v, .nil, e => by simp at e
  | _, _, 0, v, .cons h _, e => by
    simp at e
    subst e
    exact ⟨_, rfl, h⟩
  | _, _, i + 1, v, .cons _ t, e => by
    obtain ⟨d, h1, h2⟩ := Dvs.get (i := i) t (by simpa using e)
    exact ⟨d, by simpa using h1, h2⟩
theorem Dvs.snoc {K : PySem.W.Frag} {H : Hp} : ∀ {vs : List V} {ds : List PyData} {v : V} {d : PyData}, Dvs K H vs ds → Dv K H v d → Dvs K H (vs ++ [v]) (ds ++ [d])
  | _, _, _, _, .nil, h => .cons h .nil
  | _, _, _, _, .cons h t, h' => .cons h (Dvs.snoc t h')
theorem Dvs.mono {K : PySem.W.Frag} {H H' : Hp} (e : Same H H') : ∀ {vs : List V} {ds : List PyData}, Dvs K H vs ds → Dvs K H' vs ds
  | _, _, .nil => .nil
  | _, _, .cons h t => .cons (Dv.mono e h) (Dvs.mono e t)
theorem sqT_mono {K : PySem.W.Frag} {H H' : Hp} (e : Same H H') {a : Addr} {xs : List V} (h : SqT K H a xs) : SqT K H' a xs := by
  rcases h with (h | ⟨o, h⟩) | h
  · exact .inl (.inl (e _ _ h))
  · exact .inl (.inr ⟨o, e _ _ h⟩)
  · exact .inr h
theorem dc_it {J : It} {n : Nat} {Gd : Hp → Prop} {Y : Nat → Hp → V → Hp → Prop} (w : Walk J n Gd Y) {g : TG} {tt : TT} {tk tv : TE} {vs : List Nat} {σ : L2.St} {H1 : Hp} {D : Addr} {Qd : Hp → Prop} (Pv : Nat → Hp → Prop) (h0 : Pv 0 (upd H1 D (.dK []))) (hG : ∀ i H, i ≤ n → Pv i H → Gd H)
    (hs : ∀ i x H H', i < n → Pv i H → Y i H x H' → g x (wipe σ vs) H' fun σ2 H2 => wipe σ2 vs = wipe σ vs ∧ tt σ2 H2 fun b H3 =>
      if b = true then tk σ2 H3 fun y H4 => tv σ2 H4 fun z H5 => ∃ kvs k, y = kV k ∧ H5 D = some (.dK kvs) ∧ kvs.length < sizeLine ∧ Pv (i + 1) (upd H5 D (.dK (putK kvs k z))) else Pv (i + 1) H3) (hd : ∀ H, Pv n H → Qd H) :
    ∃ W : Nat → Nat → Hp → Prop, (∃ m, W 0 m (upd H1 D (.dK []))) ∧ ∀ i m H, W i m H →
      (J.stop i H ∧ Qd H) ∨ (J.go i H ∧ ∃ Nx : Hp → Prop, (∀ H', Nx H' → ∃ m', m' < m ∧ W (i + 1) m' H') ∧ ∀ x H', J.yld i H x H' → g x (wipe σ vs) H' fun σ2 H2 => wipe σ2 vs = wipe σ vs ∧ tt σ2 H2 fun b H3 =>
        if b = true then tk σ2 H3 fun y H4 => tv σ2 H4 fun z H5 => ∃ kvs k, y = kV k ∧ H5 D = some (.dK kvs) ∧ kvs.length < sizeLine ∧ Nx (upd H5 D (.dK (putK kvs k z))) else Nx H3) := by
  refine ⟨fun i m H => m = n - i ∧ i ≤ n ∧ Pv i H, ⟨n, by simp, Nat.zero_le _, h0⟩, ?_⟩
  rintro i m H ⟨rfl, hi, p⟩
  have q := hG i H hi p
  by_cases hlt : i < n
  · exact .inr ⟨w.goes i H hlt q, Pv (i + 1), fun H' p' => ⟨n - (i + 1), by omega, rfl, hlt, p'⟩, fun x H' y => hs i x H H' hlt p (w.yields i H x H' hlt q y)⟩
  · have e : i = n := by omega
    subst e
    exact .inl ⟨w.stops H q, hd H p⟩
/-- the state of a copying comprehension behind i items -/
structure CpAt (K : PySem.W.Frag) (H G : Hp) (D : Addr) (ds : List PyData) (i : Nat) (H' : Hp) : Prop where
  ex : ∃ (Gi : Hp) (ys : List V), Same G Gi ∧ NoFrz Gi ∧ Beside H G Gi ∧ Gi D = none ∧ Same Gi H' ∧ (∀ b o, b ≠ D → H b = some o → H' b = some o) ∧ H' D = some (.lst ys) ∧ Dvs K Gi ys (ds.take i)
theorem CpAt.start {K : PySem.W.Frag} {H G : Hp} {D : Addr} {ds : List PyData} (hG : Same G H) (hn : NoFrz G) (hD : H D = none) : CpAt K H G D ds 0 (upd H D (.lst [])) :=
  ⟨G, [], Same.refl G, hn, fun _ _ z => z, hG.free hD, hG.trans (same_new hD), fun b o hb e => by rw [upd_ne hb]; exact e, upd_same, .nil⟩
/-- one more item copied -/
theorem CpAt.step {K : PySem.W.Frag} {H G H' : Hp} {D : Addr} {ds : List PyData} {i : Nat} {d : PyData} {v : V} (hDn : H D = none) (c : CpAt K H G D ds i H') (hd : ds[i]? = some d) (hv : Dv K G v d) {n : Nat} (hc : Cp n d) (hz : ds.length ≤ 100) {Q : VK}
    (h : ∀ v' H'' ys, H'' D = some (.lst ys) → ys.length < sizeLine → CpAt K H G D ds (i + 1) (upd H'' D (.lst (ys ++ [v']))) → Q v' H'') : spCopied n K [v] H' Q E0 := by
  obtain ⟨Gi, ys, s1, nf, bs, gD, s2, kp, hDl, dv⟩ := c.ex
  refine ⟨v, d, Gi, rfl, hc, s2, nf, Dv.mono s1 hv, fun v' G' H'' e1 nf' be e2 e3 dv' => ?_⟩
  have gD' : G' D = none := be D (by rw [hDl]; exact fun z => nomatch z) gD
  have hl : ys.length ≤ 100 := by
    rw [Dvs.len dv, List.length_take]
    exact Nat.le_trans (Nat.min_le_right _ _) hz
  refine h v' H'' ys (e3 _ _ hDl) (Nat.lt_of_le_of_lt hl (by decide)) ⟨G', ys ++ [v'], s1.trans e1, nf', fun b hb z => be b ?_ (bs b hb z), gD', fun b o e => ?_, fun b o hb e => ?_, upd_same, ?_⟩
  · cases q : H b with
    | none => exact absurd q hb
    | some o =>
      have hbD : b ≠ D := fun z => by
        rw [z, hDn] at q
        cases q
      rw [kp b o hbD q]
      exact fun z => nomatch z
  · rw [upd_ne (ne_of_none e gD')]
    exact e2 _ _ e
  · rw [upd_ne hb]
    exact e3 _ _ (kp b o hb e)
  · rw [List.take_add_one, hd]
    exact Dvs.snoc (Dvs.mono e1 dv) dv'

theorem dks_a {K : PySem.W.Frag} {H : Hp} {kvs : List (Key × V)} (h : Dks K H kvs [(.str "a", .int 3)]) : kvs = kvA := by
  generalize hp : [(PyData.str "a", PyData.int 3)] = ps at h
  cases h with
  | nil => cases hp
  | @cons k v kvs d ps h1 h2 =>
    injection hp with e1 e2
    injection e1 with e3 e4
    subst e4
    subst e2
    cases h2
    cases h1
    cases k with
    | inl i => cases e3
    | inr x =>
      injection e3 with e5
      subst e5
      rfl
theorem CpAt.list {K : PySem.W.Frag} {H G H' : Hp} {D : Addr} {ds : List PyData} {Q : VK} (hD : H D = none) (c : CpAt K H G D ds ds.length H')
    (q : ∀ v' G' H', Same G G' → NoFrz G' → Beside H G G' → Same G' H' → Same H H' → Dv K G' v' (.list ds) → Q v' H') : Q (.ref D) H' := by
  obtain ⟨Gi, ys, e1, nf', bs, gD, e2, kp, hl, dv⟩ := c.ex
  rw [List.take_length] at dv
  have hb : ∀ b, H b ≠ none → b ≠ D := fun b z e => z (e ▸ hD)
  refine q (.ref D) (upd Gi D (.lst ys)) H' (e1.trans (same_new gD)) (noFrz_upd nf' fun _ _ z => nomatch z) (fun b z g => by rw [upd_ne (hb b z)]; exact bs b z g) (fun b o e => ?_) (fun b o e => kp b o (hb b (by rw [e]; exact fun z => nomatch z)) e) (.lst (SqL.of upd_same) (Dvs.mono (same_new gD) dv))
  by_cases z : b = D
  · rw [z, upd_same] at e
    rw [z, hl]
    exact e
  · rw [upd_ne z] at e
    exact e2 _ _ e
theorem CpAt.tuple {K : PySem.W.Frag} {H G H' : Hp} {D : Addr} {ds : List PyData} {Q : VK} (hD : H D = none) (c : CpAt K H G D ds ds.length H')
    (q : ∀ v' G' H', Same G G' → NoFrz G' → Beside H G G' → Same G' H' → Same H H' → Dv K G' v' (.tuple ds) → Q v' H') :
    tCB (fun xs H Q => ∃ p ys, xs = [.ref p] ∧ ((SqL K H p ys ∧ ∀ l, H l = none → Q (.ref l) (upd H l (.tup ys))) ∨ (SqT K H p ys ∧ Q (.ref p) H))) (fun _ H k => k [.ref D] H) [] H' Q := by
  obtain ⟨Gi, ys, e1, nf', bs, gD, e2, kp, hl, dv⟩ := c.ex
  rw [List.take_length] at dv
  have hb : ∀ b, H b ≠ none → b ≠ D := fun b z e => z (e ▸ hD)
  refine ⟨D, ys, rfl, .inl ⟨SqL.of hl, fun l hn => ?_⟩⟩
  have hl' : ∀ b, H b ≠ none → b ≠ l := fun b z e => by
    cases y : H b with
    | none => exact z y
    | some o =>
      have w := kp b o (hb b z) y
      rw [e, hn] at w
      cases w
  have gl : Gi l = none := e2.free hn
  refine q (.ref l) (upd Gi l (.tup ys)) _ (e1.trans (same_new gl)) (noFrz_upd nf' fun _ _ z => nomatch z) (fun b z g => by rw [upd_ne (hl' b z)]; exact bs b z g) (fun b o e => ?_) (fun b o e => ?_) (.tup (.inl (.inl upd_same)) (Dvs.mono (same_new gl) dv))
  · by_cases z : b = l
    · rw [z, upd_same] at e ⊢
      exact e
    · rw [upd_ne z] at e ⊢
      exact e2 _ _ e
  · have z : H b ≠ none := by rw [e]; exact fun z => nomatch z
    rw [upd_ne (hl' b z)]
    exact kp b o (hb b z) e
section
variable {P : Program} {w : World} {K : PySem.W.Frag} {mg : Str → Option Value} {base : Heap}
theorem scCopied : FnScope ["value", "part", "key"] ["value"] (defScope sCopied) := ⟨rfl, rfl, rfl, by decide +kernel, rfl, by decide +kernel, by decide +kernel⟩
theorem ok_copied {f : Addr} {fd : FuncData} (F : Fun K "copied" "copied" sCopied f fd) (T : B0 mg) (hm : mg "copied" = some (.ref f)) (b : Binds K fd ["value"] []) : ∀ n, FnOk P w K mg base CX0 (n + 1) f fd ["value"] (spCopied n K) := by
  intro n
  induction n with
  | zero =>
    refine F.ok scCopied (fun vs H Q E h => ?_) (fun cdv A outer s H vs Q E hr h => ?_)
    · obtain ⟨v, d, G, rfl, _⟩ := h
      rfl
    · obtain ⟨v, d, G, rfl, hc, s1, nf, hd, q⟩ := h
      have tst : ∀ c : String, c ∈ clsL → isT c d = true → c = "int" ∨ c = "bool" ∨ c = "str" := fun c hc' e => by
        simp only [clsL, List.mem_cons, List.not_mem_nil, or_false] at hc'
        rcases hc' with rfl | rfl | rfl | rfl | rfl | rfl <;> cases d <;> simp_all [isT, Cp]
      refine ⟨_, pss_cons (ps_if (pt_val (pe_callB (call_isD (c := "list")) (by rfl) T.isi (by decide +kernel) (pa_cons (pv 0) (pa_cons (pe_bltn (v := .ty "list") (by rfl) T.list (by decide +kernel) rfl) pa_nil)))) (pss_one ps_never) pss_nil)
        (pss_cons (ps_if (pt_val (pe_callB (call_isD (c := "tuple")) (by rfl) T.isi (by decide +kernel) (pa_cons (pv 0) (pa_cons (pe_bltn (v := .ty "tuple") (by rfl) T.tuple (by decide +kernel) rfl) pa_nil)))) (pss_one ps_never) pss_nil)
        (pss_cons (ps_if (pt_val (pe_callB (call_isD (c := "dict")) (by rfl) T.isi (by decide +kernel) (pa_cons (pv 0) (pa_cons (pe_bltn (v := .ty "dict") (by rfl) T.dict (by decide +kernel) rfl) pa_nil)))) (pss_one ps_never) pss_nil)
        (pss_one (ps_ret (pv 0))))), ?_⟩
      have no : ∀ c : String, c ∈ ["list", "tuple", "dict"] → isT c d = false := fun c hc' => by
        simp only [List.mem_cons, List.not_mem_nil, or_false] at hc'
        rcases hc' with rfl | rfl | rfl <;> cases d <;> simp_all [isT, Cp]
      refine ⟨v, rfl, v, d, rfl, Dv.mono s1 hd, _, rfl, ?_⟩
      rw [no "list" (by simp)]
      refine iteF ⟨v, rfl, v, d, rfl, Dv.mono s1 hd, _, rfl, ?_⟩
      rw [no "tuple" (by simp)]
      refine iteF ⟨v, rfl, v, d, rfl, Dv.mono s1 hd, _, rfl, ?_⟩
      rw [no "dict" (by simp)]
      exact iteF ⟨v, rfl, q v G H (Same.refl G) nf (fun _ _ z => z) s1 (Same.refl H) hd⟩
  | succ n ih =>
    refine F.ok scCopied (fun vs H Q E h => ?_) (fun cdv A outer s H vs Q E hr h => ?_)
    · obtain ⟨v, d, G, rfl, _⟩ := h
      rfl
    · obtain ⟨v, d, G, rfl, hc, s1, nf, hd, q⟩ := h
      have hu := hu_of hr
      refine ⟨_, pss_cons (ps_if (pt_val (pe_callB (call_isD (c := "list")) (by rfl) T.isi (by decide +kernel) (pa_cons (pv 0) (pa_cons (pe_bltn (v := .ty "list") (by rfl) T.list (by decide +kernel) rfl) pa_nil))))
          (pss_one (ps_ret (pe_lc (own := [("part", 1)]) (g := gName 1) (tt := tYes) (by rfl) scCopied.nd (pi_list (pv 0)) (blkOk_by (own := [("part", 1)]) (N := ["value", "part", "key"]) (sc := defScope sCopied) (by decide +kernel))
            (fun _ _ _ _ _ => pg_name (i := 1) scCopied.nd rfl (Or.inl rfl)) (fun _ _ _ _ _ => pts_nil) (fun _ _ _ _ _ => pe_call ih hr (by rfl) hm F.kp b .nil pass0 (pa_cons (pv 1) pa_nil))))) pss_nil)
        (pss_cons (ps_if (pt_val (pe_callB (call_isD (c := "tuple")) (by rfl) T.isi (by decide +kernel) (pa_cons (pv 0) (pa_cons (pe_bltn (v := .ty "tuple") (by rfl) T.tuple (by decide +kernel) rfl) pa_nil))))
          (pss_one (ps_ret (pe_callTy call_tuple_of (by rfl) T.tuple (by decide +kernel) (pa_cons (pe_lc (own := [("part", 1)]) (g := gName 1) (tt := tYes) (by rfl) scCopied.nd (pi_tup (pv 0)) (blkOk_by (own := [("part", 1)]) (N := ["value", "part", "key"]) (sc := defScope sCopied) (by decide +kernel))
            (fun _ _ _ _ _ => pg_name (i := 1) scCopied.nd rfl (Or.inl rfl)) (fun _ _ _ _ _ => pts_nil) (fun _ _ _ _ _ => pe_call ih hr (by rfl) hm F.kp b .nil pass0 (pa_cons (pv 1) pa_nil))) pa_nil)))) pss_nil)
        (pss_cons (ps_if (pt_val (pe_callB (call_isD (c := "dict")) (by rfl) T.isi (by decide +kernel) (pa_cons (pv 0) (pa_cons (pe_bltn (v := .ty "dict") (by rfl) T.dict (by decide +kernel) rfl) pa_nil))))
          (pss_one (ps_ret (pe_lock (pe_dc (own := [("key", 2)]) (g := gName 2) (tt := tYes) (by rfl) scCopied.nd (pi_keys (pv 0)) (blkOk_by (own := [("key", 2)]) (N := ["value", "part", "key"]) (sc := defScope sCopied) (by decide +kernel))
            (fun _ _ _ _ _ => pg_name (i := 2) scCopied.nd rfl (Or.inl rfl)) (fun _ _ _ _ _ => pts_nil) (fun _ _ _ _ _ => pv 2) (fun _ _ _ _ _ => pe_call ih hr (by rfl) hm F.kp b .nil pass0 (pa_cons (pe_dget hu (pv 0) (pv 2) (fun _ _ => rfl)) pa_nil)))))) pss_nil)
        (pss_one (ps_ret (pv 0))))), ?_⟩
      have hd' := Dv.mono s1 hd
      refine ⟨v, rfl, v, d, rfl, hd', _, rfl, ?_⟩
      cases d with
      | list ds =>
        refine iteT ?_
        obtain ⟨hz, hcs⟩ := hc
        cases hd with
        | @lst a xs _ hs ha =>
          refine ⟨_, rfl, a, rfl, ⟨xs, s1.seq hs⟩, fun D hD => lc_list (K := K) (a := a) (xs := xs) (CpAt K H G D ds) (CpAt.start s1 nf hD) (fun i H' _ c => ?_) (fun i x H' hi c => ⟨rfl, yes_go ?_⟩) (fun H' c => ?_)⟩
          · obtain ⟨Gi, ys, e1, _, _, _, e2, _⟩ := c.ex
            exact (e1.trans e2).seq hs
          · obtain ⟨d, hdi, hv⟩ := Dvs.get ha hi
            refine ⟨x, rfl, c.step hD hdi hv (hcs d (List.mem_of_getElem? hdi)) hz fun v' H'' ys e1 e2 c' => ⟨ys, e1, e2, c'⟩⟩
          · rw [Dvs.len ha] at c
            exact CpAt.list hD c q
      | tuple ds =>
        refine iteF ⟨v, rfl, v, _, rfl, hd', _, rfl, ?_⟩
        refine iteT ?_
        obtain ⟨hz, hcs⟩ := hc
        cases hd with
        | @tup a xs _ hs ha =>
          refine ⟨_, rfl, a, rfl, ⟨xs, sqT_mono s1 hs⟩, fun D hD => lc_tup (K := K) (a := a) (xs := xs) (CpAt K H G D ds) (CpAt.start s1 nf hD) (fun i H' _ c => ?_) (fun i x H' hi c => ⟨rfl, yes_go ?_⟩) (fun H' c => ?_)⟩
          · obtain ⟨Gi, ys, e1, _, _, _, e2, _⟩ := c.ex
            exact sqT_mono (e1.trans e2) hs
          · obtain ⟨d, hdi, hv⟩ := Dvs.get ha hi
            refine ⟨x, rfl, c.step hD hdi hv (hcs d (List.mem_of_getElem? hdi)) hz fun v' H'' ys e1 e2 c' => ⟨ys, e1, e2, c'⟩⟩
          · rw [Dvs.len ha] at c
            exact CpAt.tuple hD c q
      | dict ps =>
        refine iteF ⟨v, rfl, v, _, rfl, hd', _, rfl, ?_⟩
        refine iteF ⟨v, rfl, v, _, rfl, hd', _, rfl, ?_⟩
        refine iteT ?_
        obtain rfl : ps = [(.str "a", .int 3)] := hc
        cases hd with
        | @dic a kvs _ hs ha =>
          obtain rfl := dks_a ha
          have hH : H a = some (.dK kvA) := by
            rcases hs with z | ⟨o, z⟩
            · exact s1 _ _ z
            · exact absurd z (nf _ _ _)
          refine ⟨a, _, hH, True.intro, fun od => ⟨_, rfl, a, od, rfl, .inl ⟨_, upd_same, fun D hD => ?_⟩⟩⟩
          have key : ∀ H1, H1 D = some (.dK kvA) → (∀ b o, b ≠ D → b ≠ a → H b = some o → H1 b = some o) → H1 a = some (.frz od (.dK kvA)) → Q (.ref D) (upd H1 a (.dK kvA)) := fun H1 e1 e2 e3 => by
            have hDa : D ≠ a := fun z => by
              rw [z, upd_same] at hD
              cases hD
            have hb : ∀ b, H b ≠ none → b ≠ D := fun b z e => by
              rw [← e, upd_ne (e ▸ hDa)] at hD
              exact z hD
            have gD : G D = none := by
              cases y : G D with
              | none => rfl
              | some o => exact absurd rfl (hb D (by rw [s1 _ _ y]; exact fun z => nomatch z))
            have s3 : Same H (upd H1 a (.dK kvA)) := fun b o e => by
              by_cases z : b = a
              · rw [z, hH] at e
                rw [z, upd_same]
                exact e
              · rw [upd_ne z]
                exact e2 b o (hb b (by rw [e]; exact fun z => nomatch z)) z e
            refine q (.ref D) (upd G D (.dK kvA)) _ (same_new gD) (noFrz_upd nf fun _ _ z => nomatch z) (fun b z g => by rw [upd_ne (hb b z)]; exact g) (fun b o e => ?_) s3 (.dic (.inl upd_same) (.cons (.int 3) .nil))
            by_cases z : b = D
            · rw [z, upd_same] at e
              rw [z, upd_ne hDa, e1]
              exact e
            · rw [upd_ne z] at e
              exact s3 _ _ (s1 _ _ e)
          have hDa : D ≠ a := fun z => by
            rw [z, upd_same] at hD
            cases hD
          refine dc_it (walk_keys (d := a) (o := od) (kvs := kvA)) (fun i H1 => (∀ b o, b ≠ D → b ≠ a → H b = some o → H1 b = some o) ∧ H1 a = some (.frz od (.dK kvA)) ∧ H1 D = some (.dK (kvA.take i))) ?_ (fun i H1 _ c => c.2.1) ?_ ?_
          · exact ⟨fun b o h1 h2 e => by rw [upd_ne h1, upd_ne h2]; exact e, by rw [upd_ne (Ne.symm hDa), upd_same], upd_same⟩
          · rintro i x H1 H2 hi ⟨c1, c2, c3⟩ ⟨rfl, k, vv, hk, rfl⟩
            have i0 : i = 0 := by
              have : i < 1 := hi
              omega
            subst i0
            cases hk
            refine ⟨rfl, yes_go ?_⟩
            refine ⟨_, rfl, .ref a, rfl, _, rfl, a, _, rfl, .inl ⟨kvA, Sum.inr ka, .inr ⟨od, c2⟩, rfl, rfl⟩, ?_⟩
            refine ⟨.int 3, .int 3, fun _ => none, rfl, by cases n <;> exact True.intro, (fun _ _ z => nomatch z), (fun _ _ _ z => nomatch z), .int 3, fun v' G' H' e1 e2 e3 e4 e5 e6 => ?_⟩
            cases e6
            refine ⟨[], Sum.inr ka, rfl, e5 _ _ c3, by decide, fun b o h1 h2 e => ?_, ?_, ?_⟩
            · rw [upd_ne h1]
              exact e5 _ _ (c1 b o h1 h2 e)
            · rw [upd_ne (Ne.symm hDa)]
              exact e5 _ _ c2
            · rw [upd_same]
              rfl
          · rintro H1 ⟨c1, c2, c3⟩
            exact ⟨c2, key H1 c3 c1 c2⟩
      | none => exact iteF ⟨v, rfl, v, _, rfl, hd', _, rfl, iteF ⟨v, rfl, v, _, rfl, hd', _, rfl, iteF ⟨v, rfl, q v G H (Same.refl G) nf (fun _ _ z => z) s1 (Same.refl H) hd⟩⟩⟩
      | bool _ => exact iteF ⟨v, rfl, v, _, rfl, hd', _, rfl, iteF ⟨v, rfl, v, _, rfl, hd', _, rfl, iteF ⟨v, rfl, q v G H (Same.refl G) nf (fun _ _ z => z) s1 (Same.refl H) hd⟩⟩⟩
      | int _ => exact iteF ⟨v, rfl, v, _, rfl, hd', _, rfl, iteF ⟨v, rfl, v, _, rfl, hd', _, rfl, iteF ⟨v, rfl, q v G H (Same.refl G) nf (fun _ _ z => z) s1 (Same.refl H) hd⟩⟩⟩
      | str _ => exact iteF ⟨v, rfl, v, _, rfl, hd', _, rfl, iteF ⟨v, rfl, v, _, rfl, hd', _, rfl, iteF ⟨v, rfl, q v G H (Same.refl G) nf (fun _ _ z => z) s1 (Same.refl H) hd⟩⟩⟩
end
end K0
end

section
set_option Elab.async false
set_option linter.all false
set_option maxRecDepth 100000
set_option maxHeartbeats 4000000
/-! the errors' __init__ -/
namespace K0
open PySem L2 KZ
/-- what the written part says of an error class: its name, its __init__, its fields -/
structure ErrC (K : PySem.W.Frag) (mg : Str → Option Value) (nm : Str) (C fI : Addr) (fs : List Str) : Prop where
  ox : OexC K C
  ex : ExcT K C
  ini : PySem.W.findIn K (.ref C) "__init__" = some (some (.ref fI))
  ti : PySem.W.typeIn K (.ref fI) = some (.type "function")
  no : ∀ f ∈ fs, PySem.W.findIn K (.ref C) f = some none
  gl : mg nm = some (.ref C)
/-- self.f = copied(x) -/
def spE1 (K : PySem.W.Frag) (C : Addr) (f : Str) : Sp := fun vs H Q _ => ∃ a v d G, vs = [.ref a, v] ∧ Cp 3 d ∧ Same G H ∧ NoFrz G ∧ G a = none ∧ Dv K G v d ∧ H a = some (exo a C none) ∧
  ∀ v' G' dx H', Same G G' → NoFrz G' → Beside H G G' → G' a = none → G' dx = none → H dx = none → dx ≠ a → Same G' H' → (∀ b o, b ≠ a → H b = some o → H' b = some o) → H' a = some (exo a C (some dx)) → H' dx = some (exd dx [(f, v')]) → Dv K G' v' d → Q .non H'
/-- self.f = copied(x); self.g = copied(y) -/
def spE2 (K : PySem.W.Frag) (C : Addr) (f g : Str) : Sp := fun vs H Q _ => ∃ a v u d e G, vs = [.ref a, v, u] ∧ Cp 3 d ∧ Cp 3 e ∧ Same G H ∧ NoFrz G ∧ G a = none ∧ Dv K G v d ∧ Dv K G u e ∧ H a = some (exo a C none) ∧
  ∀ v' u' G' dx H', Same G G' → NoFrz G' → Beside H G G' → G' a = none → G' dx = none → H dx = none → dx ≠ a → Same G' H' → (∀ b o, b ≠ a → H b = some o → H' b = some o) → H' a = some (exo a C (some dx)) → H' dx = some (exd dx [(g, u'), (f, v')]) → Dv K G' v' d → Dv K G' u' e → Q .non H'
section
variable {P : Program} {w : World} {K : PySem.W.Frag} {mg : Str → Option Value} {base : Heap} {fC : Addr} {dC : FuncData}
theorem ok_init1 {C f : Addr} {fd : FuncData} {q x fld : Str} {st : Stmt} {p1 p2 p3 p4 p5 p6 : Pos} (hb : defBody st = [.Assign [.Attribute (.Name "self" p1) fld p2] (.Call (.Name "copied" p3) [.Name x p4] [] p5) p6])
    (S : FnScope ["self", x] ["self", x] (defScope st)) (hs : (defScope st).names.lookup ("self" : Str) = some .local) (hx : (defScope st).names.lookup x = some .local) (hc : (defScope st).names.lookup ("copied" : Str) = some .globalImplicit)
    (hd : (x == ("__debug__" : Str)) = false) (hcd : (x == ("__classdict__" : Str)) = false) (F : Fun K "__init__" q st f fd) (ox : OexC K C) (no : PySem.W.findIn K (.ref C) fld = some none)
    (T : B0 mg) (gC : mg "copied" = some (.ref fC)) (FC : Fun K "copied" "copied" sCopied fC dC) (bC : Binds K dC ["value"] []) : FnOk P w K mg base CX0 5 f fd ["self", x] (spE1 K C fld) := by
  have GC : FnOk P w K mg base CX0 4 fC dC ["value"] (spCopied 3 K) := ok_copied FC T gC bC 3
  refine F.ok S (fun vs H Q E h => ?_) (fun cdv A outer s H vs Q E hr h => ?_)
  · obtain ⟨a, v, d, G, rfl, _⟩ := h
    rfl
  · obtain ⟨a, v, d, G, rfl, hcp, s1, nf, ga, hv, ha, q⟩ := h
    rw [hb]
    refine ⟨_, pss_one (ps_ost (pe_var (i := 0) rfl (.inl hs)) (pe_call GC hr hc gC FC.kp bC .nil pass0 (pa_cons (pe_var (i := 1) rfl (.inl hx) hd hcd) pa_nil))), ?_⟩
    refine ⟨v, rfl, v, d, G, rfl, hcp, s1, nf, hv, fun v' G' H' e1 e2 e3 e4 e5 e6 => ?_⟩
    have ga' : G' a = none := e3 a (by rw [ha]; exact fun z => nomatch z) ga
    refine ⟨_, rfl, a, C, rfl, ox, no, .inl ⟨e5 _ _ ha, fun dx hdx ne => ?_⟩⟩
    have gd : G' dx = none := e4.free hdx
    refine q v' G' dx _ e1 e2 e3 ga' gd (e5.free hdx) ne (fun b o e => ?_) (fun b o hb e => ?_) upd_same (by rw [upd_ne ne, upd_same]) e6
    · rw [upd_ne (ne_of_none e ga'), upd_ne (ne_of_none e gd)]
      exact e4 _ _ e
    · rw [upd_ne hb, upd_ne (ne_of_none (e5 _ _ e) hdx)]
      exact e5 _ _ e
theorem ok_init2 {C f : Addr} {fd : FuncData} {q x y fld gld : Str} {st : Stmt} {p1 p2 p3 p4 p5 p6 q1 q2 q3 q4 q5 q6 : Pos}
    (hb : defBody st = [.Assign [.Attribute (.Name "self" p1) fld p2] (.Call (.Name "copied" p3) [.Name x p4] [] p5) p6, .Assign [.Attribute (.Name "self" q1) gld q2] (.Call (.Name "copied" q3) [.Name y q4] [] q5) q6])
    (S : FnScope ["self", x, y] ["self", x, y] (defScope st)) (hs : (defScope st).names.lookup ("self" : Str) = some .local) (hx : (defScope st).names.lookup x = some .local) (hy : (defScope st).names.lookup y = some .local) (hc : (defScope st).names.lookup ("copied" : Str) = some .globalImplicit)
    (hd : (x == ("__debug__" : Str)) = false) (hcd : (x == ("__classdict__" : Str)) = false) (hd2 : (y == ("__debug__" : Str)) = false) (hcd2 : (y == ("__classdict__" : Str)) = false) (F : Fun K "__init__" q st f fd) (ox : OexC K C)
    (no : PySem.W.findIn K (.ref C) fld = some none) (no2 : PySem.W.findIn K (.ref C) gld = some none)
    (T : B0 mg) (gC : mg "copied" = some (.ref fC)) (FC : Fun K "copied" "copied" sCopied fC dC) (bC : Binds K dC ["value"] []) : FnOk P w K mg base CX0 5 f fd ["self", x, y] (spE2 K C fld gld) := by
  have GC : FnOk P w K mg base CX0 4 fC dC ["value"] (spCopied 3 K) := ok_copied FC T gC bC 3
  refine F.ok S (fun vs H Q E h => ?_) (fun cdv A outer s H vs Q E hr h => ?_)
  · obtain ⟨a, v, u, d, e, G, rfl, _⟩ := h
    rfl
  · obtain ⟨a, v, u, d, e, G, rfl, hcp, hcp2, s1, nf, ga, hv, hu, ha, q⟩ := h
    rw [hb]
    refine ⟨_, pss_cons (ps_ost (pe_var (i := 0) rfl (.inl hs)) (pe_call GC hr hc gC FC.kp bC .nil pass0 (pa_cons (pe_var (i := 1) rfl (.inl hx) hd hcd) pa_nil)))
      (pss_one (ps_ost (pe_var (i := 0) rfl (.inl hs)) (pe_call GC hr hc gC FC.kp bC .nil pass0 (pa_cons (pe_var (i := 2) rfl (.inl hy) hd2 hcd2) pa_nil)))), ?_⟩
    refine ⟨v, rfl, v, d, G, rfl, hcp, s1, nf, hv, fun v' G' H' e1 e2 e3 e4 e5 e6 => ?_⟩
    have ga' : G' a = none := e3 a (by rw [ha]; exact fun z => nomatch z) ga
    refine ⟨_, rfl, a, C, rfl, ox, no, .inl ⟨e5 _ _ ha, fun dx hdx ne => ?_⟩⟩
    have gd : G' dx = none := e4.free hdx
    have s2 : Same G' (upd (upd H' dx (exd dx [(fld, v')])) a (exo a C (some dx))) := fun b o z => by
      rw [upd_ne (ne_of_none z ga'), upd_ne (ne_of_none z gd)]
      exact e4 _ _ z
    refine ⟨u, rfl, u, e, G', rfl, hcp2, s2, e2, Dv.mono e1 hu, fun u' G2 H2 f1 f2 f3 f4 f5 f6 => ?_⟩
    have nn : ∀ b o, H b = some o → (upd (upd H' dx (exd dx [(fld, v')])) a (exo a C (some dx))) b ≠ none := fun b o z => by
      by_cases hba : b = a
      · rw [hba, upd_same]
        exact fun z => nomatch z
      · rw [upd_ne hba, upd_ne (ne_of_none (e5 _ _ z) hdx), e5 _ _ z]
        exact fun z => nomatch z
    have ga2 : G2 a = none := f3 a (by rw [upd_same]; exact fun z => nomatch z) ga'
    have gd2 : G2 dx = none := f3 dx (by rw [upd_ne ne, upd_same]; exact fun z => nomatch z) gd
    have ha2 : H2 a = some (exo a C (some dx)) := f5 _ _ upd_same
    have hd2 : H2 dx = some (exd dx [(fld, v')]) := f5 _ _ (by rw [upd_ne ne, upd_same])
    refine ⟨_, rfl, a, C, rfl, ox, no2, .inr ⟨dx, _, ha2, hd2, (show 1 ≤ 900 by decide), ?_⟩⟩
    refine q v' u' G2 dx _ (e1.trans f1) f2 (fun b z g => ?_) ga2 gd2 (e5.free hdx) ne (fun b o z => ?_) (fun b o hb z => ?_) (by rw [upd_ne (Ne.symm ne)]; exact ha2) upd_same (Dv.mono f1 e6) f6
    · cases y : H b with
      | none => exact absurd y z
      | some o => exact f3 b (nn b o y) (e3 b z g)
    · rw [upd_ne (ne_of_none z gd2)]
      exact f4 _ _ z
    · have hbd : b ≠ dx := ne_of_none (e5 _ _ z) hdx
      rw [upd_ne hbd]
      exact f5 _ _ (by rw [upd_ne hb, upd_ne hbd]; exact e5 _ _ z)
end
end K0
end

section
set_option Elab.async false
set_option linter.all false
set_option maxRecDepth 100000
set_option maxHeartbeats 4000000
/-! what draws -/
namespace K0
open PySem L2 KZ
abbrev sPen : Stmt := top 161
abbrev sDraw : Stmt := top 162
abbrev sOne : Stmt := top 163
structure B1 (mg : Str → Option Value) : Prop extends B0 mg where
  abs : mg "abs" = none
  range : mg "range" = none
  repr : mg "repr" = none
  enum : mg "enumerate" = none
/-- at p: what draws; its cells at c -/
structure PenAt (H : Hp) (p c : Addr) (cells : List Int) (n : Nat) : Prop where
  ex : ∃ at_ great : Int, H p = some (.lst [.ref c, .int at_, .int great]) ∧ 0 ≤ at_ ∧ at_ ≤ n ∧ 0 ≤ great
  cs : H c = some (.lst (cells.map V.int))
  few : cells.length ≤ 63
  ne : p ≠ c
theorem PenAt.mono {H H' : Hp} {p c : Addr} {cells : List Int} {n m : Nat} (h : PenAt H p c cells n) (e : Same H H') (hn : n ≤ m) : PenAt H' p c cells m := by
  obtain ⟨a, g, h1, h2, h3, h4⟩ := h.ex
  exact ⟨⟨a, g, e _ _ h1, h2, by omega, h4⟩, e _ _ h.cs, h.few, h.ne⟩
/-- all but p is as it was -/
def Kept (p : Addr) (H H' : Hp) : Prop := ∀ b o, b ≠ p → H b = some o → H' b = some o
theorem Kept.trans {p : Addr} {H H1 H2 : Hp} (a : Kept p H H1) (b : Kept p H1 H2) : Kept p H H2 := fun x o hx e => b x o hx (a x o hx e)
theorem Kept.of {p : Addr} {H H1 : Hp} (a : Same H H1) : Kept p H H1 := fun x o _ e => a x o e
def spPen (K : PySem.W.Frag) : Sp := fun vs H Q _ => ∃ (a : Addr) (ns : List Int), vs = [.ref a] ∧ SqL K H a (ns.map V.int) ∧ ns.length ≤ 63 ∧
  ∀ p c cells H', H p = none → H c = none → Same H H' → PenAt H' p c cells 0 → Q (.ref p) H'
def spDraw : Sp := fun vs H Q _ => ∃ (p c : Addr) (cells : List Int) (n : Nat) (m : Int), vs = [.ref p, .int m] ∧ PenAt H p c cells n ∧ n ≤ 10000 ∧ 0 < m ∧ m ≤ 1000000 ∧
  ∀ r H', 0 ≤ r → r < m → PenAt H' p c cells (n + 1) → Kept p H H' → Q (.int r) H'
theorem cut63 (ns : List Int) : ∃ cells : List Int, cutV (ns.map V.int) none (some 63) = cells.map V.int ∧ cells.length ≤ ns.length := by
  refine ⟨(ns.drop (HT.sIx (ns.map V.int).length 0 none)).take (HT.sIx (ns.map V.int).length (ns.map V.int).length (some 63) - HT.sIx (ns.map V.int).length 0 none), ?_, ?_⟩
  · unfold cutV
    rw [List.map_take, List.map_drop]
  · rw [List.length_take, List.length_drop]
    omega
section
variable {P : Program} {w : World} {K : PySem.W.Frag} {mg : Str → Option Value} {base : Heap}
theorem scPen : FnScope ["script", "cell"] ["script"] (defScope sPen) := ⟨rfl, rfl, rfl, by decide +kernel, rfl, by decide +kernel, by decide +kernel⟩
theorem ok_pen {f : Addr} {fd : FuncData} (F : Fun K "_law_pen" "_law_pen" sPen f fd) (T : B1 mg) : FnOk P w K mg base CX0 1 f fd ["script"] (spPen K) := by
  refine F.ok scPen (fun vs H Q E h => ?_) (fun cdv A outer s H vs Q E hr h => ?_)
  · obtain ⟨a, ns, rfl, _⟩ := h
    rfl
  · obtain ⟨a, ns, rfl, hs, hl, q⟩ := h
    refine ⟨_, pss_one (ps_ret (pe_lst (pa_cons (pe_lc (own := [("cell", 1)]) (g := gName 1) (tt := tYes) (by rfl) scPen.nd (pi_list (pe_slice sl_list (pv 0) po_none (po_some pe_int)))
      (blkOk_by (own := [("cell", 1)]) (N := ["script", "cell"]) (sc := defScope sPen) (by decide +kernel)) (fun _ _ _ _ _ => pg_name (i := 1) scPen.nd rfl (Or.inl rfl)) (fun _ _ _ _ _ => pts_nil)
      (fun _ _ _ _ _ => pe_callTy call_int1 (by rfl) T.int (by decide +kernel) (pa_cons (pv 1) pa_nil))) (pa_cons pe_int (pa_cons pe_int pa_nil))))), ?_⟩
    obtain ⟨cells, hc, hcl⟩ := cut63 ns
    refine ⟨_, rfl, 63, rfl, a, _, rfl, hs, fun l hn => ⟨l, rfl, ⟨_, SqL.of upd_same⟩, fun D hD => ?_⟩⟩
    have hlD : l ≠ D := fun z => by
      rw [← z, upd_same] at hD
      cases hD
    have hDn : H D = none := by
      rw [upd_ne (Ne.symm hlD)] at hD
      exact hD
    refine lc_list (K := K) (a := l) (xs := cells.map V.int) (fun i H' => H' = upd (upd H l (.lst (cells.map V.int))) D (.lst ((cells.take i).map V.int))) ?_ ?_ ?_ ?_
    · rw [hc]
      rfl
    · rintro i H' _ rfl
      exact SqL.of (by rw [upd_ne hlD, upd_same])
    · rintro i x H' hi rfl
      rw [List.getElem?_map] at hi
      cases e : cells[i]? with
      | none =>
        rw [e] at hi
        cases hi
      | some z =>
        rw [e] at hi
        cases hi
        refine ⟨rfl, yes_go ?_⟩
        refine ⟨_, rfl, .inl ⟨z, rfl, _, upd_same, ?_, ?_⟩⟩
        · rw [List.length_map, List.length_take]
          exact Nat.lt_of_le_of_lt (Nat.le_trans (Nat.min_le_right _ _) (Nat.le_trans hcl hl)) (by decide)
        · rw [upd_upd, List.take_add_one, e]
          simp
    · rintro H' rfl
      rw [List.length_map, List.take_length]
      refine ⟨by show 3 ≤ sizeLine; decide, fun p hp => ?_⟩
      have hpD : p ≠ D := fun z => by
        rw [z, upd_same] at hp
        cases hp
      have hpl : p ≠ l := fun z => by
        rw [z, upd_ne hlD, upd_same] at hp
        cases hp
      have hpn : H p = none := by
        rw [upd_ne hpD, upd_ne hpl] at hp
        exact hp
      refine q p D cells _ hpn hDn ((same_new hn).trans ((same_new (show (upd H l (.lst (cells.map V.int))) D = none from by rw [upd_ne (Ne.symm hlD)]; exact hDn)).trans (same_new hp))) ⟨⟨0, 0, upd_same, by decide, by decide, by decide⟩, by rw [upd_ne (Ne.symm hpD), upd_same], Nat.le_trans hcl hl, hpD⟩
theorem dp_ints {H : Hp} : ∀ (l : List Int), DpAll K H (l.map V.int) (l.map PyData.int)
  | [] => .nil
  | i :: r => .cons (.int i) (dp_ints r)
theorem can_ints : ∀ l : List Int, PyData.canLayAll0 (l.map PyData.int) = true
  | [] => rfl
  | i :: r => by
    show (PyData.canLay0 (.int i) && PyData.canLayAll0 (r.map PyData.int)) = true
    rw [can_ints r]
    rfl
theorem depth_ints : ∀ l : List Int, PyData.depthAll (l.map PyData.int) = 0
  | [] => rfl
  | i :: r => by
    show max (PyData.depth (.int i)) (PyData.depthAll (r.map PyData.int)) = 0
    rw [depth_ints r]
    rfl
theorem shaped_ints (l : List Int) : SeqAt.shaped (.list (l.map PyData.int)) = true := by
  unfold SeqAt.shaped
  have h1 : PyData.canLay0 (.list (l.map PyData.int)) = true := can_ints l
  have h2 : PyData.depth (.list (l.map PyData.int)) ≤ 64 := by
    show PyData.depthAll (l.map PyData.int) + 1 ≤ 64
    rw [depth_ints]
    decide
  rw [h1, decide_eq_true h2]
  rfl
theorem eqv_nil (l : List Int) : PyData.eqv (.list (l.map PyData.int)) (.list []) = l.isEmpty := by
  cases l <;> rfl
theorem scDraw : FnScope ["pen", "many", "digit", "at", "cell", "great", "mixed"] ["pen", "many"] (defScope sDraw) := ⟨rfl, rfl, rfl, by decide +kernel, rfl, by decide +kernel, by decide +kernel⟩
theorem pow_b {x : Int} {b : Nat} (h1 : 0 ≤ x) (h2 : x < 2 ^ 63) : CPow x (b : Int) ↔ (b ≤ 1000000) := by
  unfold CPow
  constructor
  · rintro ⟨_, h, _⟩
    omega
  · intro h
    refine ⟨by omega, by omega, ?_⟩
    omega
theorem if_setI {b : Bool} {te : TE} {i : Nat} {D : Ends} {σ : L2.St} {H : Hp} (h1 : b = true → ∀ Q : VK, (∀ z : Int, Q (.int z) H) → te σ H Q) (h0 : ∃ z0 : Int, σ = σ.set i (some (.int z0))) (rest : ∀ z : Int, D.nx (σ.set i (some (.int z))) H) :
    if b = true then tAsg te (gName i) D σ H else D.nx σ H := by
  cases b with
  | true => exact iteT (h1 rfl _ fun z => rest z)
  | false =>
    obtain ⟨z0, e⟩ := h0
    rw [e]
    exact iteF (rest z0)
theorem if_and {t u : TT} {s1 s2 : TS} {D : Ends} {σ : L2.St} {H : Hp} (b1 b2 : Bool) (h1 : ∀ Q : Bool → Hp → Prop, Q b1 H → t σ H Q) (h2 : b1 = true → ∀ Q : Bool → Hp → Prop, Q b2 H → u σ H Q) (tail : s2 D σ H) (go : b1 = true → b2 = true → s1 { D with nx := s2 D } σ H) :
    tSeq (tIfS (tAnd t u) s1 tNext) s2 D σ H := by
  refine h1 _ ?_
  cases b1 with
  | false => exact iteF (iteF tail)
  | true =>
    refine iteT (h2 rfl _ ?_)
    cases b2 with
    | false => exact iteF tail
    | true => exact iteT (go rfl rfl)
theorem ok_draw {f : Addr} {fd : FuncData} (F : Fun K "_law_draw" "_law_draw" sDraw f fd) (T : B1 mg) : FnOk P w K mg base CX0 1 f fd ["pen", "many"] spDraw := by
  refine F.ok scDraw (fun vs H Q E h => ?_) (fun cdv A outer s H vs Q E hr h => ?_)
  · obtain ⟨p, c, cells, n, m, rfl, _⟩ := h
    rfl
  · obtain ⟨p, c, cells, n, m, rfl, pen, hn, hm0, hm1, q⟩ := h
    obtain ⟨at_, gr, hp, ha0, ha1, hg0⟩ := pen.ex
    have hcs := pen.cs
    have npc := pen.ne
    refine ⟨_, (pss_cons (ps_if (pt_cmpR op_gt (pe_ix ix_list (pv 0) pe_int (fun _ _ => rfl)) pe_int (nomark _))
(pss_cons (ps_set (i := 2) scDraw.nd rfl (Or.inl rfl) (pe_op op_mod (pe_callTy call_int1 (by rfl) T.int (by decide +kernel) (pa_cons (pe_ix ix_list (pv 0) pe_int (fun _ _ => rfl)) pa_nil)) (pv 1)))
(pss_cons (ps_asg (pe_op op_fdiv (pe_callTy call_int1 (by rfl) T.int (by decide +kernel) (pa_cons (pe_ix ix_list (pv 0) pe_int (fun _ _ => rfl)) pa_nil)) (pv 1)) (pg_sub (pv 0) pe_int set_list))
(pss_one (ps_ret (pv 2)))))
pss_nil)
(pss_cons (ps_set (i := 3) scDraw.nd rfl (Or.inl rfl) (pe_ix ix_list (pv 0) pe_int (fun _ _ => rfl)))
(pss_cons (ps_asg (pe_op op_add (pv 3) pe_int) (pg_sub (pv 0) pe_int set_list))
(pss_cons (ps_set (i := 4) scDraw.nd rfl (Or.inl rfl) (pe_op op_add (pe_op op_mul pe_int (pv 3)) pe_int))
(pss_cons (ps_if (pt_cmpR (op_neD hr.units) (pe_ix ix_list (pv 0) pe_int (fun _ _ => rfl)) (pe_lst pa_nil) (nomark _))
(pss_one (ps_set (i := 4) scDraw.nd rfl (Or.inl rfl) (pe_ix ix_list (pe_ix ix_list (pv 0) pe_int (fun _ _ => rfl)) (pe_op op_mod (pe_callTy call_int1 (by rfl) T.int (by decide +kernel) (pa_cons (pv 3) pa_nil)) (pe_callB call_len (by rfl) T.len PySem.boot_len (pa_cons (pe_ix ix_list (pv 0) pe_int (fun _ _ => rfl)) pa_nil))) (fun _ _ => rfl))))
pss_nil)
(pss_cons (ps_if (PW.pt (pw_and (pt_cmpR op_lt (pv 3) (pe_callB call_len (by rfl) T.len PySem.boot_len (pa_cons (pe_ix ix_list (pv 0) pe_int (fun _ _ => rfl)) pa_nil)) (nomark _)) (pw_and1 (pt_cmpR op_ge (pe_callB call_abs (by rfl) T.abs (by decide +kernel) (pa_cons (pv 4) pa_nil)) (pe_op op_pow pe_int pe_int) (nomark _)))))
(pss_cons (ps_set (i := 5) scDraw.nd rfl (Or.inl rfl) (pe_op op_add (pe_op op_mul pe_int (pe_op op_sub (pe_callB call_abs (by rfl) T.abs (by decide +kernel) (pa_cons (pv 4) pa_nil)) (pe_op op_pow pe_int pe_int))) (pe_callTy call_int1 (by rfl) T.int (by decide +kernel) (pa_cons (pe_cmpR op_lt (pv 4) pe_int (nomark _)) pa_nil))))
(pss_cons (ps_asg (pe_op op_fdiv (pe_callTy call_int1 (by rfl) T.int (by decide +kernel) (pa_cons (pv 5) pa_nil)) (pv 1)) (pg_sub (pv 0) pe_int set_list))
(pss_one (ps_ret (pe_op op_mod (pe_callTy call_int1 (by rfl) T.int (by decide +kernel) (pa_cons (pv 5) pa_nil)) (pv 1))))))
pss_nil)
(pss_cons (ps_set (i := 6) scDraw.nd rfl (Or.inl rfl) (pe_op op_mod (pe_callTy call_int1 (by rfl) T.int (by decide +kernel) (pa_cons (pe_op op_pow (pe_op op_add (pe_op op_add (pe_op op_mod (pe_callTy call_int1 (by rfl) T.int (by decide +kernel) (pa_cons (pv 4) pa_nil)) pe_int) (pe_op op_mul pe_int (pv 3))) pe_int) pe_int) pa_nil)) pe_int))
(pss_cons (ps_set (i := 6) scDraw.nd rfl (Or.inl rfl) (pe_op op_mod (pe_callTy call_int1 (by rfl) T.int (by decide +kernel) (pa_cons (pe_op op_pow (pe_op op_add (pe_op op_add (pe_op op_mul (pv 6) (pe_op op_add (pe_op op_mul pe_int (pv 3)) pe_int)) (pe_op op_mul (pe_op op_mul pe_int (pv 3)) (pv 3))) pe_int) pe_int) pa_nil)) pe_int))
(pss_one (ps_ret (pe_op op_mod (pe_callTy call_int1 (by rfl) T.int (by decide +kernel) (pa_cons (pe_op op_fdiv (pv 6) pe_int) pa_nil)) (pv 1)))))))))))), ?_⟩
    have i2 : atI [V.ref c, V.int at_, V.int gr] 2 = some (V.int gr) := rfl
    have i1 : atI [V.ref c, V.int at_, V.int gr] 1 = some (V.int at_) := rfl
    have i0 : ∀ z, atI [V.ref c, V.int z, V.int gr] 0 = some (V.ref c) := fun _ => rfl
    refine ⟨_, rfl, p, _, 2, _, rfl, rfl, SqL.of hp, i2, gr, 0, rfl, rfl, _, rfl, ?_⟩
    refine ite2 (fun hg => ?_) (fun hg => ?_)
    · have hg' : 0 < gr := of_decide_eq_true hg
      refine ⟨_, rfl, p, _, 2, _, rfl, rfl, SqL.of hp, i2, .inl ⟨gr, rfl, _, rfl, gr, m, rfl, rfl, hm0, ?_⟩⟩
      refine ⟨_, rfl, p, _, 2, _, rfl, rfl, SqL.of hp, i2, .inl ⟨gr, rfl, _, rfl, gr, m, rfl, rfl, ⟨hm0, by omega⟩, ?_⟩⟩
      refine ⟨_, rfl, p, _, 2, 2, rfl, rfl, hp, rfl, _, rfl, ?_⟩
      refine q (gr % m) _ (Int.emod_nonneg _ (by omega)) (Int.emod_lt_of_pos _ hm0) ⟨⟨at_, gr / m, upd_same, ha0, by omega, Int.ediv_nonneg hg0 (by omega)⟩, by rw [upd_ne (Ne.symm npc)]; exact hcs, pen.few, npc⟩ (fun b o hb e => by rw [upd_ne hb]; exact e)
    · have hg' : gr = 0 := by
        have : ¬ 0 < gr := fun z => hg (decide_eq_true z)
        omega
      refine ⟨_, rfl, p, _, 1, _, rfl, rfl, SqL.of hp, i1, ?_⟩
      refine ⟨_, rfl, at_, 1, rfl, rfl, _, rfl, p, _, 1, 1, rfl, rfl, hp, rfl, ?_⟩
      obtain ⟨H1, hH1⟩ : ∃ H1, H1 = upd H p (.lst [V.ref c, V.int (at_ + 1), V.int gr]) := ⟨_, rfl⟩
      have h1p : H1 p = some (.lst [V.ref c, V.int (at_ + 1), V.int gr]) := by rw [hH1, upd_same]
      have h1c : H1 c = some (.lst (cells.map V.int)) := by rw [hH1, upd_ne (Ne.symm npc)]; exact hcs
      have k1 : Kept p H H1 := fun b o hb e => by rw [hH1, upd_ne hb]; exact e
      show _
      rw [show upd H p (HO.lst ([V.ref c, V.int at_, V.int gr].set 1 (V.int (at_ + 1)))) = H1 from hH1.symm]
      refine ⟨_, rfl, 96001, at_, rfl, rfl, .inl ⟨by decide, by decide⟩, _, _, rfl, rfl, ?_⟩
      refine ⟨_, rfl, p, _, 0, _, rfl, rfl, SqL.of h1p, rfl, Nat.zero_le _, fun l hl => ?_⟩
      have k2 : Same H1 (upd H1 l (.lst [])) := same_new hl
      refine ⟨_, _, Dp.lst (SqL.of (k2 _ _ h1c)) (dp_ints cells), Dp.lst (SqL.of upd_same) .nil, shaped_ints cells, by decide +kernel, _, rfl, ?_⟩
      -- behind the cell is taken
      obtain ⟨H2, hH2⟩ : ∃ H2, H2 = upd H1 l (.lst []) := ⟨_, rfl⟩
      rw [← hH2] at k2 ⊢
      have h2p := k2 _ _ h1p
      have h2c := k2 _ _ h1c
      have k3 : Kept p H H2 := k1.trans (Kept.of k2)
      have fin : ∀ (gr' : Int) (H3 : Hp), 0 ≤ gr' → H3 = upd H2 p (.lst [V.ref c, V.int (at_ + 1), V.int gr']) ∨ (H3 = H2 ∧ gr' = gr) → PenAt H3 p c cells (n + 1) ∧ Kept p H H3 := fun gr' H3 g0 e => by
        rcases e with e | ⟨e, e'⟩
        · rw [e]
          exact ⟨⟨⟨_, gr', upd_same, by omega, by omega, g0⟩, by rw [upd_ne (Ne.symm npc)]; exact h2c, pen.few, npc⟩, fun b o hb z => by rw [upd_ne hb]; exact k3 b o hb z⟩
        · rw [e]
          exact ⟨⟨⟨_, gr, h2p, by omega, by omega, hg0⟩, h2c, pen.few, npc⟩, k3⟩
      refine if_setI (fun hb Q' k => ?_) ⟨_, rfl⟩ (fun z => ?_)
      · have hne : cells ≠ [] := fun e => by
          rw [eqv_nil, e] at hb
          cases hb
        have hl0 : 0 < cells.length := List.length_pos_iff.mpr hne
        have hr0 : 0 ≤ at_ % (cells.length : Int) := Int.emod_nonneg _ (by omega)
        have hr1 : at_ % (cells.length : Int) < cells.length := Int.emod_lt_of_pos _ (by omega)
        obtain ⟨j, hj⟩ : ∃ j : Nat, at_ % (cells.length : Int) = j := ⟨_, (Int.toNat_of_nonneg hr0).symm⟩
        have hjl : j < cells.length := by omega
        refine ⟨_, rfl, p, _, 0, _, rfl, rfl, SqL.of h2p, rfl, _, rfl, .inl ⟨at_, rfl, _, rfl, p, _, 0, _, rfl, rfl, SqL.of h2p, rfl, .ref c, cells.length, rfl, .inl ⟨_, SqL.of h2c, by rw [List.length_map]⟩, at_, cells.length, rfl, rfl, by omega, ?_⟩⟩
        refine ⟨c, _, _, .int (cells[j]'hjl), rfl, rfl, SqL.of h2c, ?_, k _⟩
        rw [hj]
        exact atI_nat (by simp [hjl])
      · dsimp only
        refine if_and (decide (at_ < (cells.length : Int))) (decide ((10 : Int) ^ (18 : Int).toNat ≤ (if z < 0 then -z else z))) (fun Q' k => ?_) (fun _ Q' k => ?_) ?_ (fun _ hbig => ?_)
        · exact ⟨_, rfl, _, rfl, p, _, 0, _, rfl, rfl, SqL.of h2p, rfl, .ref c, cells.length, rfl, .inl ⟨_, SqL.of h2c, by rw [List.length_map]⟩, at_, cells.length, rfl, rfl, _, rfl, k⟩
        · exact ⟨_, rfl, z, rfl, 10, 18, rfl, rfl, ⟨by decide, by decide, by decide⟩, _, _, rfl, rfl, _, rfl, k⟩
        · have b0 : 0 ≤ z % 2147483587 := Int.emod_nonneg _ (by decide)
          have b1 : z % 2147483587 < 2147483587 := Int.emod_lt_of_pos _ (by decide)
          have b2 : at_ ≤ 10000 := by omega
          refine ⟨_, rfl, .inl ⟨z, rfl, z, 2147483587, rfl, rfl, (show (0 : Int) < 2147483587 by decide), _, rfl, 60541, at_, rfl, rfl, .inl ⟨by decide, by decide⟩, _, _, rfl, rfl, _, _, rfl, rfl, _, 5, rfl, rfl, ⟨by decide, by decide, by omega⟩, .inl ⟨_, rfl, _, 2147483629, rfl, rfl, (show (0 : Int) < 2147483629 by decide), ?_⟩⟩⟩
          dsimp only
          generalize (z % 2147483587 + 60541 * at_ + 907) ^ (5 : Int).toNat = big1
          have c0 : 0 ≤ big1 % 2147483629 := Int.emod_nonneg _ (by decide)
          have c1 : big1 % 2147483629 < 2147483629 := Int.emod_lt_of_pos _ (by decide)
          generalize hmx : big1 % 2147483629 = mx at c0 c1 ⊢
          have c2 : 0 ≤ mx * (2 * at_ + 827) := Int.mul_nonneg c0 (by omega)
          have c3 : mx * (2 * at_ + 827) ≤ 2147483629 * 20827 := Int.mul_le_mul (by omega) (by omega) (by omega) (by decide)
          have c4 : 0 ≤ 50341 * at_ * at_ := Int.mul_nonneg (by omega) ha0
          have c5 : 50341 * at_ * at_ ≤ 503410000 * 10000 := Int.mul_le_mul (by omega) b2 ha0 (by decide)
          refine ⟨_, rfl, _, rfl, 2, at_, rfl, rfl, .inl ⟨by decide, by decide⟩, _, _, rfl, rfl, mx, _, rfl, rfl, .inl ⟨by omega, by omega⟩, _, rfl, 50341, at_, rfl, rfl, .inl ⟨by decide, by decide⟩, _, rfl, _, at_, rfl, rfl, .inl ⟨by omega, by omega⟩, _, _, rfl, rfl, _, _, rfl, rfl, _, 3, rfl, rfl, ⟨by decide, by decide, by omega⟩, .inl ⟨_, rfl, _, 2147483563, rfl, rfl, (show (0 : Int) < 2147483563 by decide), ?_⟩⟩
          dsimp only
          generalize (mx * (2 * at_ + 827) + 50341 * at_ * at_ + 1061) ^ (3 : Int).toNat = big2
          refine ⟨_, rfl, _, 32, rfl, rfl, ⟨by decide, by decide⟩, .inl ⟨_, rfl, _, rfl, _, m, rfl, rfl, hm0, ?_⟩⟩
          obtain ⟨f1, f2⟩ := fin gr H2 hg0 (.inr ⟨rfl, rfl⟩)
          exact q _ _ (Int.emod_nonneg _ (by omega)) (Int.emod_lt_of_pos _ hm0) f1 f2
        · have hz0 : ∀ b : Bool, (0 : Int) ≤ 2 * ((if z < 0 then -z else z) - 10 ^ (18 : Int).toNat) + (if b = true then 1 else 0) := fun b => by
            have h1 : (10 : Int) ^ (18 : Int).toNat ≤ (if z < 0 then -z else z) := of_decide_eq_true hbig
            have h2 : (0 : Int) ≤ (if b = true then 1 else 0) := by cases b <;> decide
            omega
          refine ⟨_, rfl, z, rfl, 10, 18, rfl, rfl, ⟨by decide, by decide, by decide⟩, _, _, rfl, rfl, 2, _, rfl, rfl, .inl ⟨by decide, by decide⟩, _, rfl, z, 0, rfl, rfl, .inr ⟨_, rfl, _, _, rfl, rfl, ?_⟩⟩
          dsimp only
          have hz1 := hz0 (decide (z < 0))
          generalize 2 * ((if z < 0 then -z else z) - 10 ^ (18 : Int).toNat) + (if decide (z < 0) = true then 1 else 0) = gg at hz1 ⊢
          refine ⟨_, rfl, .inl ⟨gg, rfl, _, rfl, gg, m, rfl, rfl, ⟨hm0, by omega⟩, _, rfl, p, _, 2, 2, rfl, rfl, h2p, rfl, _, rfl, .inl ⟨gg, rfl, _, rfl, gg, m, rfl, rfl, hm0, ?_⟩⟩⟩
          obtain ⟨f1, f2⟩ := fin (gg / m) _ (Int.ediv_nonneg hz1 (by omega)) (.inl rfl)
          exact q _ _ (Int.emod_nonneg _ (by omega)) (Int.emod_lt_of_pos _ hm0) f1 f2
end
end K0
end

section
set_option Elab.async false
set_option linter.all false
set_option maxRecDepth 100000
set_option maxHeartbeats 4000000
/-! a drawn value -/
namespace K0
open PySem L2 KZ
abbrev sValue : Stmt := top 164
structure D0 (mg : Str → Option Value) (fD fO fV : Addr) : Prop where
  gD : mg "_law_draw" = some (.ref fD)
  gO : mg "_law_one" = some (.ref fO)
  gV : mg "_law_value" = some (.ref fV)
/-- one of some things -/
def spOne : Sp := fun vs H Q _ => ∃ (p c s : Addr) (cells : List Int) (n : Nat) (xs : List V), vs = [.ref p, .ref s] ∧ PenAt H p c cells n ∧ n ≤ 10000 ∧ H s = some (.lst xs) ∧ s ≠ p ∧ 0 < xs.length ∧ xs.length ≤ 100 ∧
  ∀ (i : Nat) (x : V) H', xs[i]? = some x → PenAt H' p c cells (n + 1) → Kept p H H' → Q x H'
/-- the items of the menu -/
def leafs : List PyData := [.none, .bool true, .bool false, .int 0, .int (-1), .int 7, .int (10 ^ 40), .str "", .str "a", .str "abcdefgh", .str "abcdefghi", .str "A", .str "a1", .str "a b", .str "-", .int 999999999, .int (10 ^ 9), .tuple [.int 1, .str "a"], .list [.int 2], .dict [(.str "a", .int 3)]]
def IsVal : Nat → PyData → Prop
  | 0, d => d ∈ leafs
  | _ + 1, d => d ∈ leafs ∨ ∃ x ∈ leafs, ∃ y ∈ leafs, d = .list [x, .tuple [y]]
def spValue (k : Nat) (K : PySem.W.Frag) : Sp := fun vs H Q _ => ∃ (p c : Addr) (cells : List Int) (n : Nat) (G : Hp), vs = [.ref p, .int k] ∧ PenAt H p c cells n ∧ n + 10 * (k + 1) ≤ 10000 ∧ Same G H ∧ NoFrz G ∧ G p = none ∧
  ∀ v d G' H', IsVal k d → Same G G' → NoFrz G' → Beside H G G' → Same G' H' → Kept p H H' → PenAt H' p c cells (n + 4) → Dv K G' v d → Q v H'
section
variable {P : Program} {w : World} {K : PySem.W.Frag} {mg : Str → Option Value} {base : Heap} {fD fO fV : Addr} {dD dO dV : FuncData}
theorem scOne : FnScope ["pen", "some"] ["pen", "some"] (defScope sOne) := ⟨rfl, rfl, rfl, by decide +kernel, rfl, by decide +kernel, by decide +kernel⟩
theorem ok_one {f : Addr} {fd : FuncData} (F : Fun K "_law_one" "_law_one" sOne f fd) (T : B1 mg) (U : D0 mg fD fO fV) (FD : Fun K "_law_draw" "_law_draw" sDraw fD dD) (bD : Binds K dD ["pen", "many"] []) : FnOk P w K mg base CX0 2 f fd ["pen", "some"] spOne := by
  have GD : FnOk P w K mg base CX0 1 fD dD ["pen", "many"] spDraw := ok_draw FD T
  refine F.ok scOne (fun vs H Q E h => ?_) (fun cdv A outer s H vs Q E hr h => ?_)
  · obtain ⟨p, c, s, cells, n, xs, rfl, _⟩ := h
    rfl
  · obtain ⟨p, c, s, cells, n, xs, rfl, pen, hn, hs, nsp, hx0, hx1, q⟩ := h
    refine ⟨_, (pss_one (ps_ret (pe_ix ix_list (pv 1) (pe_call GD hr (by rfl) U.gD FD.kp bD .nil pass0 (pa_cons (pv 0) (pa_cons (pe_callB call_len (by rfl) T.len PySem.boot_len (pa_cons (pv 1) pa_nil)) pa_nil))) (fun _ _ => rfl)))), ?_⟩
    refine ⟨_, rfl, _, rfl, _, rfl, .ref s, xs.length, rfl, .inl ⟨xs, SqL.of hs, rfl⟩, p, c, cells, n, xs.length, rfl, pen, hn, by omega, by omega, fun r H' r0 r1 pen' kp => ?_⟩
    obtain ⟨j, hj⟩ : ∃ j : Nat, r = j := ⟨_, (Int.toNat_of_nonneg r0).symm⟩
    have hjl : j < xs.length := by omega
    have e : xs[j]? = some (xs[j]'hjl) := List.getElem?_eq_getElem hjl
    exact ⟨s, xs, r, xs[j]'hjl, rfl, rfl, SqL.of (kp s _ nsp hs), by rw [hj]; exact atI_nat e, q j _ H' e pen' kp⟩
theorem scValue : FnScope ["pen", "deep", "some"] ["pen", "deep"] (defScope sValue) := ⟨rfl, rfl, rfl, by decide +kernel, rfl, by decide +kernel, by decide +kernel⟩
theorem valdepth : True := True.intro
end
/-- the data heap G' over H' grew out of G over H; p is the one that may have changed -/
structure DH (p : Addr) (H G H' G' : Hp) : Prop where
  up : Same G G'
  nf : NoFrz G'
  bs : Beside H G G'
  sub : Same G' H'
  kp : Kept p H H'
theorem DH.refl {p : Addr} {H G : Hp} (s : Same G H) (n : NoFrz G) : DH p H G H G := ⟨Same.refl G, n, fun _ _ z => z, s, fun _ _ _ e => e⟩
theorem DH.trans {p : Addr} {H G H1 G1 H2 G2 : Hp} (a : DH p H G H1 G1) (b : DH p H1 G1 H2 G2) (hp : H1 p ≠ none) : DH p H G H2 G2 :=
  ⟨a.up.trans b.up, b.nf, fun x hx g => b.bs x (by
    by_cases e : x = p
    · rw [e]; exact hp
    · cases y : H x with
      | none => exact absurd y hx
      | some o =>
        rw [a.kp x o e y]
        exact fun z => nomatch z) (a.bs x hx g), b.sub, a.kp.trans b.kp⟩
/-- a new object of data -/
theorem DH.new {p a : Addr} {H G H1 G1 : Hp} {o : HO} (d : DH p H G H1 G1) (ha : H1 a = none) (hp : H1 p ≠ none) (ho : ∀ x u, o ≠ .frz x u) : DH p H G (upd H1 a o) (upd G1 a o) := by
  have ga : G1 a = none := d.sub.free ha
  refine d.trans ⟨same_new ga, noFrz_upd d.nf ho, fun x hx g => ?_, fun b u e => ?_, Kept.of (same_new ha)⟩ hp
  · have e : x ≠ a := fun e => hx (e ▸ ha)
    rw [upd_ne e]
    exact g
  · by_cases z : b = a
    · rw [z, upd_same] at e ⊢
      exact e
    · rw [upd_ne z] at e ⊢
      exact d.sub _ _ e
/-- a new object that is no data -/
theorem DH.other {p a : Addr} {H G H1 G1 : Hp} {o : HO} (d : DH p H G H1 G1) (ha : H1 a = none) (hp : H1 p ≠ none) : DH p H G (upd H1 a o) G1 :=
  d.trans ⟨Same.refl G1, d.nf, fun _ _ z => z, d.sub.trans (same_new ha), Kept.of (same_new ha)⟩ hp
theorem DH.nop {p : Addr} {H G H1 G1 : Hp} (d : DH p H G H1 G1) (hp : H p ≠ none) (g : G p = none) : G1 p = none := d.bs p hp g
/-- p alone has changed, which is no data -/
theorem DH.pen {p : Addr} {H G H1 G1 H2 : Hp} (d : DH p H G H1 G1) (hp : H1 p ≠ none) (g : G1 p = none) (k : Kept p H1 H2) : DH p H G H2 G1 :=
  d.trans ⟨Same.refl G1, d.nf, fun _ _ z => z, fun b o e => k b o (fun z => by rw [z, g] at e; cases e) (d.sub _ _ e), k⟩ hp
abbrev menuV (t l d : Addr) : List V := [.non, .bl true, .bl false, .int 0, .int (-1), .int 7, .int (10 ^ 40), .str "", .str "a", .str "abcdefgh", .str "abcdefghi", .str "A", .str "a1", .str "a b", .str "-", .int 999999999, .int (10 ^ 9), .ref t, .ref l, .ref d]
theorem menu_dv {K : PySem.W.Frag} {G : Hp} {t l d : Addr} (ht : G t = some (.tup [.int 1, .str "a"])) (hl : G l = some (.lst [.int 2])) (hd : G d = some (.dK kvA)) : Dvs K G (menuV t l d) leafs :=
  .cons .non (.cons (.bl _) (.cons (.bl _) (.cons (.int _) (.cons (.int _) (.cons (.int _) (.cons (.int _) (.cons (.str _) (.cons (.str _) (.cons (.str _) (.cons (.str _) (.cons (.str _) (.cons (.str _) (.cons (.str _) (.cons (.str _) (.cons (.int _) (.cons (.int _)
    (.cons (.tup (.inl (.inl ht)) (.cons (.int _) (.cons (.str _) .nil))) (.cons (.lst (SqL.of hl) (.cons (.int _) .nil)) (.cons (.dic (.inl hd) (.cons (.int 3) .nil)) .nil)))))))))))))))))))
def spVal (k : Nat) (K : PySem.W.Frag) : Sp := fun vs H Q _ => ∃ (p c : Addr) (cells : List Int) (n : Nat) (G : Hp), vs = [.ref p, .int k] ∧ PenAt H p c cells n ∧ n + 10 * (k + 1) ≤ 10000 ∧ Same G H ∧ NoFrz G ∧ G p = none ∧
  ∀ v d G' H', IsVal k d → DH p H G H' G' → PenAt H' p c cells (n + (3 * k + 1)) → Dv K G' v d → Q v H'
theorem pen_some {H : Hp} {p c : Addr} {cells : List Int} {n : Nat} (h : PenAt H p c cells n) : H p ≠ none := by
  obtain ⟨a, g, e, _⟩ := h.ex
  rw [e]
  exact fun z => nomatch z
section
variable {P : Program} {w : World} {K : PySem.W.Frag} {mg : Str → Option Value} {base : Heap} {fD fO fV : Addr} {dD dO dV : FuncData}
theorem ok_value0 {f : Addr} {fd : FuncData} (F : Fun K "_law_value" "_law_value" sValue f fd) (T : B1 mg) (U : D0 mg fD fO fV) (FD : Fun K "_law_draw" "_law_draw" sDraw fD dD) (bD : Binds K dD ["pen", "many"] []) (FO : Fun K "_law_one" "_law_one" sOne fO dO) (bO : Binds K dO ["pen", "some"] []) :
    FnOk P w K mg base CX0 3 f fd ["pen", "deep"] (spVal 0 K) := by
  have GD : FnOk P w K mg base CX0 1 fD dD ["pen", "many"] spDraw := ok_draw FD T
  have GO : FnOk P w K mg base CX0 2 fO dO ["pen", "some"] spOne := ok_one FO T U FD bD
  refine F.ok scValue (fun vs H Q E h => ?_) (fun cdv A outer s H vs Q E hr h => ?_)
  · obtain ⟨p, c, cells, n, G, rfl, _⟩ := h
    rfl
  · obtain ⟨p, c, cells, n, G, rfl, pen, hn, s1, nf, gp, q⟩ := h
    have hr1 : Room 1 _ := hr.mono (by decide)
    have hr2 : Room 2 _ := hr
    have hp := pen_some pen
    refine ⟨_, (pss_cons (ps_set (i := 2) scValue.nd rfl (Or.inl rfl) (pe_lst (pa_cons pe_non (pa_cons pe_bl (pa_cons pe_bl (pa_cons pe_int (pa_cons (pe_un un_neg pe_int) (pa_cons pe_int (pa_cons (pe_op op_pow pe_int pe_int) (pa_cons pe_str (pa_cons pe_str (pa_cons pe_str (pa_cons pe_str (pa_cons pe_str (pa_cons pe_str (pa_cons pe_str (pa_cons pe_str (pa_cons pe_int (pa_cons (pe_op op_pow pe_int pe_int) (pa_cons (pe_tup (pa_cons pe_int (pa_cons pe_str pa_nil))) (pa_cons (pe_lst (pa_cons pe_int pa_nil)) (pa_cons (pe_disp (pps_cons pe_str pe_int pps_nil) (by rfl) (by rfl) (fun z => by cases z) (by decide)) pa_nil))))))))))))))))))))))
(pss_cons (ps_if (PW.pt (pw_and (pt_cmpR op_gt (pv 1) pe_int (nomark _)) (pw_and1 (pt_cmpR op_eq (pe_call GD hr1 (by rfl) U.gD FD.kp bD .nil pass0 (pa_cons (pv 0) (pa_cons pe_int pa_nil))) pe_int (nomark _)))))
(pss_one ps_never)
pss_nil)
(pss_one (ps_ret (pe_call GO hr2 (by rfl) U.gO FO.kp bO .nil pass0 (pa_cons (pv 0) (pa_cons (pv 2) pa_nil))))))), ?_⟩
    refine ⟨1, rfl, 10, 40, rfl, rfl, ⟨by decide, by decide, by decide⟩, 10, 9, rfl, rfl, ⟨by decide, by decide, by decide⟩, by show 2 ≤ sizeLine; decide, fun t ht => ⟨by show 1 ≤ sizeLine; decide, fun l hl d hd => ?_⟩⟩
    refine ⟨upd_same, kvA, rfl, by decide, by show 20 ≤ sizeLine; decide, fun M hM => ?_⟩
    have mk : mergeK [] kvA = kvA := by decide +kernel
    rw [upd_upd, mk] at hM ⊢
    have pn : ∀ {H' : Hp}, PenAt H' p c cells n → H' p ≠ Option.none := fun h => pen_some h
    have e1 := (DH.refl (p := p) s1 nf).new ht hp (o := .tup [V.int 1, V.str "a"]) fun _ _ z => nomatch z
    have p1 : PenAt (upd H t (.tup [V.int 1, V.str "a"])) p c cells n := pen.mono (same_new ht) (Nat.le_refl _)
    have e2 := e1.new hl (pn p1) (o := .lst [V.int 2]) fun _ _ z => nomatch z
    have p2 := p1.mono (same_new (o := .lst [V.int 2]) hl) (Nat.le_refl _)
    have e3 := e2.new hd (pn p2) (o := .dK kvA) fun _ _ z => nomatch z
    have p3 := p2.mono (same_new (o := .dK kvA) hd) (Nat.le_refl _)
    have e4 := e3.other hM (pn p3) (o := .lst (menuV t l d))
    have p4 := p3.mono (same_new (o := .lst (menuV t l d)) hM) (Nat.le_refl _)
    have mv : Dvs K _ (menuV t l d) leafs := menu_dv (G := upd (upd (upd G t (.tup [V.int 1, V.str "a"])) l (.lst [V.int 2])) d (.dK kvA))
      (by
        have a1 := (same_new (o := HO.lst [V.int 2]) (e1.sub.free hl)) t _ (upd_same (H := G) (a := t) (o := .tup [V.int 1, V.str "a"]))
        exact same_new (o := .dK kvA) (e2.sub.free hd) t _ a1) (same_new (o := .dK kvA) (e2.sub.free hd) l _ upd_same) upd_same
    refine ⟨_, rfl, ((0 : Nat) : Int), 0, rfl, rfl, _, rfl, ?_⟩
    refine ite2 (fun z => absurd (of_decide_eq_true z) (by decide)) (fun _ => iteF ?_)
    refine ⟨_, rfl, _, rfl, p, c, M, cells, n, menuV t l d, rfl, p4, by omega, upd_same, fun z => pn p3 (z ▸ hM), (show 0 < 20 by decide), (show 20 ≤ 100 by decide), fun i x H' hi pen' kp => ?_⟩
    obtain ⟨dd, hdd, hv⟩ := Dvs.get mv hi
    have g4 := e4.nop hp gp
    exact q x dd _ H' (List.mem_of_getElem? hdd) (e4.pen (pn p4) g4 kp) pen' hv
end
end K0
end

section
set_option Elab.async false
set_option linter.all false
set_option maxRecDepth 100000
set_option maxHeartbeats 4000000
/-! a drawn value, one deep -/
namespace K0
open PySem L2 KZ
section
variable {P : Program} {w : World} {K : PySem.W.Frag} {mg : Str → Option Value} {base : Heap} {fD fO fV : Addr} {dD dO dV : FuncData}
theorem ok_value1 {fd : FuncData} (F : Fun K "_law_value" "_law_value" sValue fV fd) (T : B1 mg) (U : D0 mg fD fO fV) (FD : Fun K "_law_draw" "_law_draw" sDraw fD dD) (bD : Binds K dD ["pen", "many"] []) (FO : Fun K "_law_one" "_law_one" sOne fO dO) (bO : Binds K dO ["pen", "some"] [])
    (bV : Binds K fd ["pen", "deep"] []) :
    FnOk P w K mg base CX0 4 fV fd ["pen", "deep"] (spVal 1 K) := by
  have GD : FnOk P w K mg base CX0 1 fD dD ["pen", "many"] spDraw := ok_draw FD T
  have GO : FnOk P w K mg base CX0 2 fO dO ["pen", "some"] spOne := ok_one FO T U FD bD
  have GV : FnOk P w K mg base CX0 3 fV fd ["pen", "deep"] (spVal 0 K) := ok_value0 F T U FD bD FO bO
  refine F.ok scValue (fun vs H Q E h => ?_) (fun cdv A outer s H vs Q E hr h => ?_)
  · obtain ⟨p, c, cells, n, G, rfl, _⟩ := h
    rfl
  · obtain ⟨p, c, cells, n, G, rfl, pen, hn, s1, nf, gp, q⟩ := h
    have hr1 : Room 1 _ := hr.mono (by decide)
    have hr2 : Room 2 _ := hr.mono (by decide)
    have hrv : Room 3 _ := hr
    have hp := pen_some pen
    refine ⟨_, (pss_cons (ps_set (i := 2) scValue.nd rfl (Or.inl rfl) (pe_lst (pa_cons pe_non (pa_cons pe_bl (pa_cons pe_bl (pa_cons pe_int (pa_cons (pe_un un_neg pe_int) (pa_cons pe_int (pa_cons (pe_op op_pow pe_int pe_int) (pa_cons pe_str (pa_cons pe_str (pa_cons pe_str (pa_cons pe_str (pa_cons pe_str (pa_cons pe_str (pa_cons pe_str (pa_cons pe_str (pa_cons pe_int (pa_cons (pe_op op_pow pe_int pe_int) (pa_cons (pe_tup (pa_cons pe_int (pa_cons pe_str pa_nil))) (pa_cons (pe_lst (pa_cons pe_int pa_nil)) (pa_cons (pe_disp (pps_cons pe_str pe_int pps_nil) (by rfl) (by rfl) (fun z => by cases z) (by decide)) pa_nil))))))))))))))))))))))
(pss_cons (ps_if (PW.pt (pw_and (pt_cmpR op_gt (pv 1) pe_int (nomark _)) (pw_and1 (pt_cmpR op_eq (pe_call GD hr1 (by rfl) U.gD FD.kp bD .nil pass0 (pa_cons (pv 0) (pa_cons pe_int pa_nil))) pe_int (nomark _)))))
(pss_one (ps_ret (pe_lst (pa_cons (pe_call GV hrv (by rfl) U.gV F.kp bV .nil pass0 (pa_cons (pv 0) (pa_cons (pe_op op_sub (pv 1) pe_int) pa_nil))) (pa_cons (pe_tup (pa_cons (pe_call GV hrv (by rfl) U.gV F.kp bV .nil pass0 (pa_cons (pv 0) (pa_cons (pe_op op_sub (pv 1) pe_int) pa_nil))) pa_nil)) pa_nil)))))
pss_nil)
(pss_one (ps_ret (pe_call GO hr2 (by rfl) U.gO FO.kp bO .nil pass0 (pa_cons (pv 0) (pa_cons (pv 2) pa_nil))))))), ?_⟩
    refine ⟨1, rfl, 10, 40, rfl, rfl, ⟨by decide, by decide, by decide⟩, 10, 9, rfl, rfl, ⟨by decide, by decide, by decide⟩, by show 2 ≤ sizeLine; decide, fun t ht => ⟨by show 1 ≤ sizeLine; decide, fun l hl d hd => ?_⟩⟩
    refine ⟨upd_same, kvA, rfl, by decide, by show 20 ≤ sizeLine; decide, fun M hM => ?_⟩
    have mk : mergeK [] kvA = kvA := by decide +kernel
    rw [upd_upd, mk] at hM ⊢
    have pn : ∀ {H' : Hp}, PenAt H' p c cells n → H' p ≠ Option.none := fun h => pen_some h
    have e1 := (DH.refl (p := p) s1 nf).new ht hp (o := .tup [V.int 1, V.str "a"]) fun _ _ z => nomatch z
    have p1 : PenAt (upd H t (.tup [V.int 1, V.str "a"])) p c cells n := pen.mono (same_new ht) (Nat.le_refl _)
    have e2 := e1.new hl (pn p1) (o := .lst [V.int 2]) fun _ _ z => nomatch z
    have p2 := p1.mono (same_new (o := .lst [V.int 2]) hl) (Nat.le_refl _)
    have e3 := e2.new hd (pn p2) (o := .dK kvA) fun _ _ z => nomatch z
    have p3 := p2.mono (same_new (o := .dK kvA) hd) (Nat.le_refl _)
    have e4 := e3.other hM (pn p3) (o := .lst (menuV t l d))
    have p4 := p3.mono (same_new (o := .lst (menuV t l d)) hM) (Nat.le_refl _)
    have mv : Dvs K _ (menuV t l d) leafs := menu_dv (G := upd (upd (upd G t (.tup [V.int 1, V.str "a"])) l (.lst [V.int 2])) d (.dK kvA))
      (by
        have a1 := (same_new (o := HO.lst [V.int 2]) (e1.sub.free hl)) t _ (upd_same (H := G) (a := t) (o := .tup [V.int 1, V.str "a"]))
        exact same_new (o := .dK kvA) (e2.sub.free hd) t _ a1) (same_new (o := .dK kvA) (e2.sub.free hd) l _ upd_same) upd_same
    have nM : M ≠ p := fun z => pn p3 (z ▸ hM)
    refine ⟨_, rfl, ((1 : Nat) : Int), 0, rfl, rfl, _, rfl, ?_⟩
    refine ite2 (fun _ => ?_) (fun z => absurd z (by decide))
    refine ⟨_, rfl, p, c, cells, n, 5, rfl, p4, by omega, by decide, by decide, fun r H5 r0 r5 p5 k5 => ?_⟩
    have g4 := e4.nop hp gp
    have e5 := e4.pen (pn p4) g4 k5
    refine ⟨rfl, _, rfl, ?_⟩
    have g5 := e5.nop hp gp
    refine ite2 (fun _ => ?_) (fun _ => ?_)
    · refine ⟨_, rfl, _, rfl, ((1 : Nat) : Int), 1, rfl, rfl, p, c, cells, n + 1, _, rfl, p5, by omega, e5.sub, e5.nf, g5, fun v1 d1 G6 H6 hv1 e6 p6 dv1 => ?_⟩
      have g6 := e6.nop (pen_some p5) g5
      refine ⟨_, rfl, _, rfl, ((1 : Nat) : Int), 1, rfl, rfl, p, c, cells, _, _, rfl, p6, by omega, e6.sub, e6.nf, g6, fun v2 d2 G7 H7 hv2 e7 p7 dv2 => ?_⟩
      have e57 := (e5.trans e6 (pen_some p5)).trans e7 (pen_some p6)
      refine ⟨by show 1 ≤ sizeLine; decide, fun t2 ht2 => ⟨by show 2 ≤ sizeLine; decide, fun l2 hl2 => ?_⟩⟩
      have e8 := e57.new ht2 (pen_some p7) (o := .tup [v2]) fun _ _ z => nomatch z
      have p8 := p7.mono (same_new (o := .tup [v2]) ht2) (Nat.le_refl _)
      have e9 := e8.new hl2 (pen_some p8) (o := .lst [v1, .ref t2]) fun _ _ z => nomatch z
      have p9 := p8.mono (same_new (o := .lst [v1, .ref t2]) hl2) (Nat.le_refl _)
      have s7 : Same G7 (upd (upd G7 t2 (.tup [v2])) l2 (.lst [v1, .ref t2])) := (same_new (e57.sub.free ht2)).trans (same_new (e8.sub.free hl2))
      refine q _ _ _ _ (.inr ⟨d1, hv1, d2, hv2, rfl⟩) e9 (p9.mono (Same.refl _) (by omega)) ?_
      exact .lst (SqL.of upd_same) (.cons (Dv.mono (e7.up.trans s7) dv1) (.cons (.tup (.inl (.inl (same_new (e8.sub.free hl2) _ _ upd_same))) (.cons (Dv.mono s7 dv2) .nil)) .nil))
    · have nMx : H5 M = some (HO.lst (menuV t l d)) := k5 M _ nM upd_same
      refine ⟨_, rfl, _, rfl, p, c, M, cells, n + 1, menuV t l d, rfl, p5, by omega, nMx, nM, (show 0 < 20 by decide), (show 20 ≤ 100 by decide), fun i x H' hi pen' kp => ?_⟩
      obtain ⟨dd, hdd, hv⟩ := Dvs.get mv hi
      exact q x dd _ H' (.inl (List.mem_of_getElem? hdd)) (e5.pen (pen_some p5) g5 kp) (pen'.mono (Same.refl _) (by omega)) hv
end
end K0
end

section
set_option Elab.async false
set_option linter.all false
set_option maxRecDepth 100000
set_option maxHeartbeats 4000000
/-! a value told whole, two values the same -/
namespace K0
open PySem L2 KZ
abbrev sWhole : Stmt := top 165
abbrev sSame : Stmt := top 167
/-- what can be shown -/
structure Sm (L D : Nat) (d : PyData) : Prop where
  sh : d.showable = true
  ln : d.shown.length ≤ L
  dp : d.depth ≤ D
theorem Sm.mono {L D L' D' : Nat} {d : PyData} (h : Sm L D d) (a : L ≤ L') (b : D ≤ D') : Sm L' D' d := ⟨h.sh, Nat.le_trans h.ln a, Nat.le_trans h.dp b⟩
theorem sm_all {L D : Nat} : ∀ {ds : List PyData}, (∀ d ∈ ds, Sm L D d) → PyData.showableAll ds = true ∧ ((PyData.shownAll ds).map (·.length)).sum ≤ L * ds.length ∧ (PyData.shownAll ds).length = ds.length ∧ PyData.depthAll ds ≤ D
  | [], _ => ⟨by simp only [PyData.showableAll], by simp [PyData.shownAll], by simp [PyData.shownAll], by simp [PyData.depthAll]⟩
  | d :: ds, h => by
    obtain ⟨h1, h2, h3, h4⟩ := sm_all (ds := ds) fun x hx => h x (List.mem_cons_of_mem _ hx)
    obtain ⟨a1, a2, a3⟩ := h d List.mem_cons_self
    refine ⟨by simp only [PyData.showableAll, a1, h1, Bool.and_self], ?_, by simp only [PyData.shownAll, List.length_cons, h3], ?_⟩
    · simp only [PyData.shownAll, List.map_cons, List.sum_cons, List.length_cons, Nat.mul_add, Nat.mul_one]
      omega
    · simp only [PyData.depthAll]
      omega
theorem Sm.list {L D : Nat} {ds : List PyData} (h : ∀ d ∈ ds, Sm L D d) : Sm (L * ds.length + 2 * ds.length + 3) (D + 1) (.list ds) := by
  obtain ⟨h1, h2, h3, h4⟩ := sm_all h
  refine ⟨by simpa only [PyData.showable] using h1, ?_, by simp only [PyData.depth]; omega⟩
  have z := listText_len_le (PyData.shownAll ds)
  simp only [PyData.shown]
  rw [h3] at z
  omega
theorem leaf_small : ∀ d ∈ leafs, d.showable = true ∧ d.shown.length ≤ 50 ∧ d.depth ≤ 3 := by decide +kernel
theorem pair_small : ∀ x ∈ leafs, ∀ y ∈ leafs, (PyData.list [x, .tuple [y]]).showable = true ∧ (PyData.list [x, .tuple [y]]).shown.length ≤ 150 ∧ (PyData.list [x, .tuple [y]]).depth ≤ 9 := by decide +kernel
theorem val_small {d : PyData} (h : IsVal 1 d) : Sm 150 9 d := by
  rcases h with h | ⟨x, hx, y, hy, rfl⟩
  · obtain ⟨a, b, c⟩ := leaf_small d h
    exact ⟨a, by omega, by omega⟩
  · obtain ⟨a, b, c⟩ := pair_small x hx y hy
    exact ⟨a, b, c⟩
/-- two that are the same datum -/
def spSame (K : PySem.W.Frag) : Sp := fun vs H Q _ => ∃ v u d, vs = [v, u] ∧ Dv K H v d ∧ Dv K H u d ∧ Sm 10000 40 d ∧ Q (.bl true) H
section
variable {P : Program} {w : World} {K : PySem.W.Frag} {mg : Str → Option Value} {base : Heap}
theorem scWhole : FnScope ["value", "least", "most"] ["value", "least", "most"] (defScope sWhole) := ⟨rfl, rfl, rfl, by decide +kernel, rfl, by decide +kernel, by decide +kernel⟩
theorem ok_whole {f : Addr} {fd : FuncData} (F : Fun K "_law_is_whole" "_law_is_whole" sWhole f fd) (T : B0 mg) : FnOk P w K mg base CX0 1 f fd ["value", "least", "most"] (spWithin K) := by
  refine F.ok scWhole (fun vs H Q E h => ?_) (fun cdv A outer s H vs Q E hr h => ?_)
  · obtain ⟨v, d, l, m, rfl, _⟩ := h
    rfl
  · obtain ⟨v, d, l, m, rfl, hd, q⟩ := h
    refine ⟨_, (pss_one (ps_ret (pe_and (pe_callB (call_isD (c := "int")) (by rfl) T.isi (by decide +kernel) (pa_cons (pv 0) (pa_cons (pe_bltn (v := .ty "int") (by rfl) T.int (by decide +kernel) rfl) pa_nil))) (pe_and (pe_not (pe_callB (call_isD (c := "bool")) (by rfl) T.isi (by decide +kernel) (pa_cons (pv 0) (pa_cons (pe_bltn (v := .ty "bool") (by rfl) T.bool (by decide +kernel) rfl) pa_nil)))) (pe_one (pe_chain op_le op_le (pv 1) (pv 0) (pv 2))))))), ?_⟩
    refine ⟨v, rfl, v, d, rfl, hd, _, rfl, ?_⟩
    cases d with
    | int i =>
      refine iteT ⟨v, rfl, v, _, rfl, hd, _, rfl, _, rfl, ?_⟩
      refine ite2 (fun _ => ?_) (fun z => absurd rfl z)
      cases hd
      refine ⟨_, rfl, _, rfl, l, i, rfl, rfl, _, rfl, ?_⟩
      refine ite2 (fun z => ?_) (fun z => ?_)
      · refine ⟨_, rfl, i, m, rfl, rfl, ?_⟩
        have e : within l m (.int i) = decide (i ≤ m) := by simp only [within, z, Bool.true_and]
        rw [e] at q
        exact q
      · have e : within l m (.int i) = false := by simp only [within, eq_false_of_ne_true z, Bool.false_and]
        rw [e] at q
        exact q
    | bool b => exact iteT ⟨v, rfl, v, _, rfl, hd, _, rfl, _, rfl, ite2 (fun z => absurd z Bool.false_ne_true) (fun _ => q)⟩
    | _ => exact iteF q
theorem scSame : FnScope ["one", "other"] ["one", "other"] (defScope sSame) := ⟨rfl, rfl, rfl, by decide +kernel, rfl, by decide +kernel, by decide +kernel⟩
theorem ok_same (hb : ModsD base) {f : Addr} {fd : FuncData} (F : Fun K "_law_same" "_law_same" sSame f fd) (T : B1 mg) : FnG P w K mg base CX0 1 f fd ["one", "other"] (spSame K) := by
  refine okG F scSame (fun vs H Q E h => ?_) (fun cdv A outer s H vs Q E hgd hr h => ?_)
  · obtain ⟨v, u, d, rfl, _⟩ := h
    rfl
  · obtain ⟨v, u, d, rfl, h1, h2, sm, q⟩ := h
    refine ⟨_, (pss_one (ps_ret (pe_and (pe_cmpR op_eq (pe_callB (call_reprD hgd hr.units hb) (by rfl) T.repr (by decide +kernel) (pa_cons (pv 0) pa_nil)) (pe_callB (call_reprD hgd hr.units hb) (by rfl) T.repr (by decide +kernel) (pa_cons (pv 1) pa_nil)) (nomark _)) (pe_one (pe_cmpR op_eq (pe_callB (call_isD (c := "bool")) (by rfl) T.isi (by decide +kernel) (pa_cons (pv 0) (pa_cons (pe_bltn (v := .ty "bool") (by rfl) T.bool (by decide +kernel) rfl) pa_nil))) (pe_callB (call_isD (c := "bool")) (by rfl) T.isi (by decide +kernel) (pa_cons (pv 1) (pa_cons (pe_bltn (v := .ty "bool") (by rfl) T.bool (by decide +kernel) rfl) pa_nil))) (nomark _)))))), ?_⟩
    refine ⟨v, rfl, v, d, rfl, h1, sm.sh, sm.ln, sm.dp, u, rfl, u, d, rfl, h2, sm.sh, sm.ln, sm.dp, ?_⟩
    refine ⟨rfl, _, rfl, ?_⟩
    refine ite2 (fun _ => ?_) (fun z => absurd (decide_eq_true rfl) z)
    refine ⟨v, rfl, v, d, rfl, h1, u, rfl, u, d, rfl, h2, rfl, ?_⟩
    rw [decide_eq_true rfl]
    exact q
end
end K0
end

section
set_option Elab.async false
set_option linter.all false
set_option maxRecDepth 100000
set_option maxHeartbeats 4000000
/-! a name, as the law tells it -/
namespace K0
open PySem L2 KZ
def lenR (K : PySem.W.Frag) : List V → Hp → VK → Prop := fun xs H Q => ∃ x n, xs = [x] ∧ LenV K x H n ∧ Q (.int (n : Nat)) H
def rSign : R2 := fun x y H Q => ∃ (c : Nat) (z : Str), x = .str { cps := #[c] } ∧ y = .str z ∧ Q (.bl (!decide (c ∈ z.cps.toList))) H
def tNamed (K : PySem.W.Frag) : TE :=
  tAndV (tCB (rIsD K "str") (tCons (tVar 2) (tCons (tC (.ty "str")) tNil))) (tAndV (tChain (rI0 fun i j => .bl (decide (i ≤ j))) (rI0 fun i j => .bl (decide (i ≤ j))) (tC (.int 1)) (tCB (lenR K) (tCons (tVar 2) tNil)) (tC (.int 8)))
    (tOp (rEqD K) (tLc (iStr (tVar 2)) (gName 6) (tTest (tOp rSign (tVar 6) (tC (.str lets)))) (tVar 6) [6]) (tLst tNil)))
theorem dp_strs {K : PySem.W.Frag} {H : Hp} : ∀ l : List Nat, DpAll K H (l.map fun c => V.str ⟨#[c]⟩) (l.map fun c => PyData.str ⟨#[c]⟩)
  | [] => .nil
  | _ :: l => .cons (.str _) (dp_strs l)
theorem can_strs : ∀ l : List Nat, (∀ c ∈ l, c < 0x110000) → PyData.canLayAll0 (l.map fun c => PyData.str ⟨#[c]⟩) = true
  | [], _ => rfl
  | i :: r, h => by
    show (PyData.canLay0 (.str ⟨#[i]⟩) && PyData.canLayAll0 (r.map fun c => PyData.str ⟨#[c]⟩)) = true
    rw [can_strs r fun c hc => h c (List.mem_cons_of_mem _ hc)]
    have := h i List.mem_cons_self
    simp [PyData.canLay0, PyData.strOk, this]
theorem depth_strs : ∀ l : List Nat, PyData.depthAll (l.map fun c => PyData.str ⟨#[c]⟩) = 0
  | [] => rfl
  | i :: r => by
    show max (PyData.depth (.str ⟨#[i]⟩)) (PyData.depthAll (r.map fun c => PyData.str ⟨#[c]⟩)) = 0
    rw [depth_strs r]
    rfl
theorem shaped_strs (l : List Nat) (h : ∀ c ∈ l, c < 0x110000) : SeqAt.shaped (.list (l.map fun c => PyData.str ⟨#[c]⟩)) = true := by
  unfold SeqAt.shaped
  have h1 : PyData.canLay0 (.list (l.map fun c => PyData.str ⟨#[c]⟩)) = true := can_strs l h
  have h2 : PyData.depth (.list (l.map fun c => PyData.str ⟨#[c]⟩)) ≤ 64 := by
    show PyData.depthAll (l.map fun c => PyData.str ⟨#[c]⟩) + 1 ≤ 64
    rw [depth_strs]
    decide
  rw [h1, decide_eq_true h2]
  rfl
theorem empty_filter (p : Nat → Bool) : ∀ l : List Nat, (l.filter fun c => !p c).isEmpty = l.all p
  | [] => rfl
  | c :: l => by
    rw [List.filter_cons, List.all_cons, ← empty_filter p l]
    cases p c <;> rfl
theorem eqv_none (l : List Nat) : PyData.eqv (.list (l.map fun c => PyData.str ⟨#[c]⟩)) (.list []) = l.isEmpty := by
  cases l <;> rfl
theorem named_go {K : PySem.W.Frag} {a0 a1 a3 a4 a5 a6 a7 a8 : Option V} {v : V} {d : PyData} {H : Hp} {Q : VK} (hd : Dv K H v d) (hsz : ∀ x, d = .str x → x.length ≤ 1000 ∧ ∀ c ∈ x.cps.toList, c < 0x110000) (q : ∀ H', Same H H' → Q (.bl (isName d)) H') :
    tNamed K [a0, a1, some v, a3, a4, a5, a6, a7, a8] H Q := by
  refine ⟨v, rfl, v, d, rfl, hd, _, rfl, ?_⟩
  cases d with
  | str x =>
    cases hd
    have hx := (hsz x rfl).1
    refine iteT ⟨_, rfl, .str x, x.length, rfl, ⟨Nat.le_trans hx (by decide), rfl⟩, 1, (x.length : Int), rfl, rfl, _, rfl, ?_⟩
    refine ite2 (fun h1 => ⟨_, _, rfl, rfl, _, rfl, ?_⟩) (fun h1 => ⟨_, rfl, ?_⟩)
    · have g1 : 1 ≤ x.length := by have := of_decide_eq_true h1; omega
      by_cases h2 : x.length ≤ 8
      · rw [show decide ((x.length : Int) ≤ 8) = true from decide_eq_true (by omega)]
        let F : Nat → List Nat := fun i => (x.cps.toList.take i).filter fun c => !decide (c ∈ lets.cps.toList)
        refine iteT ⟨.str x, rfl, x, rfl, fun D hD => lc_it walk_str (fun i H' => H' = upd H D (.lst ((F i).map fun c => V.str ⟨#[c]⟩))) (by simp [F]) (fun _ _ _ _ => True.intro) ?_ ?_⟩
        · rintro i y H1 H2 hi rfl ⟨rfl, c, hc, rfl⟩
          have hlt : i < x.cps.toList.length := by simpa using hi
          have e : x.cps.toList[i]? = some c := by simpa using hc
          have st : F (i + 1) = F i ++ (if (!decide (c ∈ lets.cps.toList)) = true then [c] else []) := by
            simp only [F, List.take_add_one, e, Option.toList_some, List.filter_append, List.filter_cons, List.filter_nil]
          have sm : (F i).length ≤ i := Nat.le_trans (List.length_filter_le _ _) (by rw [List.length_take]; exact Nat.min_le_left _ _)
          refine ⟨rfl, ?_⟩
          refine ⟨_, rfl, c, lets, rfl, rfl, _, rfl, ?_⟩
          refine ite2 (fun z => ?_) (fun z => ?_)
          · refine ⟨_, rfl, _, upd_same, ?_, ?_⟩
            · rw [List.length_map]
              have : x.cps.toList.length = x.length := by simp [Str.length]
              refine Nat.lt_of_le_of_lt sm (Nat.lt_of_lt_of_le hlt ?_)
              rw [this]; exact Nat.le_trans hx (by decide)
            · rw [upd_upd, st, if_pos z, List.map_append]
              rfl
          · rw [st, if_neg z, List.append_nil]
        · rintro H1 rfl
          refine ⟨by show 0 ≤ sizeLine; decide, fun D2 hD2 => ?_⟩
          have nD : D ≠ D2 := fun z => by rw [z, upd_same] at hD2; cases hD2
          refine ⟨_, _, Dp.lst (SqL.of (by rw [upd_ne nD]; exact upd_same)) (dp_strs (F x.cps.toList.length)), Dp.lst (SqL.of upd_same) .nil, shaped_strs _ (fun c hc => (hsz x rfl).2 c (List.mem_of_mem_take (List.mem_filter.mp hc).1)), by decide +kernel, ?_⟩
          rw [eqv_none]
          have e : isName (.str x) = (F x.cps.toList.length).isEmpty := by
            simp only [isName, g1, h2, decide_true, Bool.true_and, F, List.take_length]
            exact (empty_filter (fun c => decide (c ∈ lets.cps.toList)) _).symm
          rw [← e]
          exact q _ ((same_new hD).trans (same_new hD2))
      · rw [show decide ((x.length : Int) ≤ 8) = false from decide_eq_false (by omega)]
        have e : isName (.str x) = false := by simp [isName, h2]
        rw [e] at q
        exact iteF (q H (Same.refl H))
    · have e : isName (.str x) = false := by
        have g1 : ¬ 1 ≤ x.length := fun z => h1 (decide_eq_true (by omega))
        simp [isName, g1]
      rw [e] at q
      exact iteF (q H (Same.refl H))
  | _ => exact iteF (q H (Same.refl H))
def strFine : PyData → Bool
  | .str x => decide (x.length ≤ 1000) && x.cps.toList.all fun c => decide (c < 0x110000)
  | _ => true
theorem leaf_str : ∀ d ∈ leafs, strFine d = true := by decide +kernel
theorem val_str {d : PyData} (h : IsVal 1 d) : ∀ x, d = .str x → x.length ≤ 1000 ∧ ∀ c ∈ x.cps.toList, c < 0x110000 := by
  rintro x rfl
  have z : strFine (.str x) = true := by
    rcases h with h | ⟨_, _, _, _, e⟩
    · exact leaf_str _ h
    · cases e
  simp only [strFine, Bool.and_eq_true, decide_eq_true_eq, List.all_eq_true] at z
  exact z
theorem leaf_int : ∀ d ∈ leafs, isInt d = within (-(10 ^ 60)) (10 ^ 60) d := by decide +kernel
theorem val_int {d : PyData} (h : IsVal 1 d) : isInt d = within (-(10 ^ 60)) (10 ^ 60) d := by
  rcases h with h | ⟨_, _, _, _, rfl⟩
  · exact leaf_int _ h
  · rfl
end K0
end

section
set_option Elab.async false
set_option linter.all false
set_option maxRecDepth 100000
set_option maxHeartbeats 4000000
/-! the checks, as told and as due -/
namespace K0
open PySem L2 KZ
abbrev sChecks : Stmt := top 166
structure KB (K : PySem.W.Frag) (dI dW dN dP : FuncData) : Prop where
  i : KBinds K dI ["value"] ["value"] (fun us ws => us ++ ws.take 1) fun vs zs => vs ++ zs.take 1
  w : KBinds K dW ["value", "least", "most"] ["most", "least", "value"] (fun us ws => us ++ (ws.take 3).reverse) fun vs zs => vs ++ (zs.take 3).reverse
  n : KBinds K dN ["value"] ["value"] (fun us ws => us ++ ws.take 1) fun vs zs => vs ++ zs.take 1
  p : KBinds K dP ["value"] ["value"] (fun us ws => us ++ ws.take 1) fun vs zs => vs ++ zs.take 1
theorem dv_bools {K : PySem.W.Frag} {H : Hp} : ∀ bs : List Bool, Dvs K H (bs.map V.bl) (bs.map PyData.bool)
  | [] => .nil
  | b :: bs => .cons (.bl b) (dv_bools bs)
theorem sm_bools (bs : List Bool) (h : bs.length ≤ 100) : Sm 10000 40 (.list (bs.map PyData.bool)) := by
  have z : Sm (5 * (bs.map PyData.bool).length + 2 * (bs.map PyData.bool).length + 3) (0 + 1) (.list (bs.map PyData.bool)) := Sm.list fun d hd => by
    obtain ⟨b, _, rfl⟩ := List.mem_map.mp hd
    cases b
    · exact ⟨by decide +kernel, by decide +kernel, by decide +kernel⟩
    · exact ⟨by decide +kernel, by decide +kernel, by decide +kernel⟩
  rw [List.length_map] at z
  exact z.mono (by omega) (by omega)
def spChecks : Sp := fun vs H Q _ => ∃ (p c : Addr) (cells : List Int) (n : Nat), vs = [.ref p] ∧ PenAt H p c cells n ∧ n ≤ 5000 ∧ ∀ H', Q (.bl true) H'
section
variable {P : Program} {w : World} {K : PySem.W.Frag} {mg : Str → Option Value} {base : Heap} {fD fO fV fI fW fN fP fH : Addr} {dD dO dV dI dW dN dP dH : FuncData}
theorem scChecks : FnScope ["pen", "turn", "value", "least", "most", "is_named", "one", "told", "due"] ["pen"] (defScope sChecks) := ⟨rfl, rfl, rfl, by decide +kernel, rfl, by decide +kernel, by decide +kernel⟩
theorem ok_checks (hb : ModsD base) {f : Addr} {fd : FuncData} (F : Fun K "_law_checks_right" "_law_checks_right" sChecks f fd) (T : B1 mg) (U : D0 mg fD fO fV) (C : C0 mg fI fW) (gN : mg "is_name" = some (.ref fN)) (gP : mg "is_place" = some (.ref fP)) (gH : mg "_law_is_whole" = some (.ref fH))
    (FD : Fun K "_law_draw" "_law_draw" sDraw fD dD) (bD : Binds K dD ["pen", "many"] []) (FO : Fun K "_law_one" "_law_one" sOne fO dO) (bO : Binds K dO ["pen", "some"] []) (FV : Fun K "_law_value" "_law_value" sValue fV dV) (bV : Binds K dV ["pen", "deep"] [])
    (FI : Fun K "is_integer" "is_integer" sIsInt fI dI) (bI : Binds K dI ["value"] []) (FW : Fun K "is_within" "is_within" sIsWithin fW dW) (bW : Binds K dW ["value", "least", "most"] []) (FN : Fun K "is_name" "is_name" sIsName fN dN) (bN : Binds K dN ["value"] [])
    (FP : Fun K "is_place" "is_place" sIsPlace fP dP) (bP : Binds K dP ["value"] []) (FH : Fun K "_law_is_whole" "_law_is_whole" sWhole fH dH) (bH : Binds K dH ["value", "least", "most"] []) (kb : KB K dI dW dN dP) :
    FnG P w K mg base CX0 5 f fd ["pen"] spChecks := by
  have GD : FnOk P w K mg base CX0 1 fD dD ["pen", "many"] spDraw := ok_draw FD T
  have GV : FnOk P w K mg base CX0 4 fV dV ["pen", "deep"] (spVal 1 K) := ok_value1 FV T U FD bD FO bO bV
  have GI : FnOk P w K mg base CX0 1 fI dI ["value"] (spIsInt K) := ok_is_integer FI T.toB0
  have GW : FnOk P w K mg base CX0 2 fW dW ["value", "least", "most"] (spWithin K) := ok_is_within FW T.toB0 C FI bI
  have GN : FnOk P w K mg base CX0 1 fN dN ["value"] (spName K) := ok_is_name FN T.toB0 C
  have GP : FnOk P w K mg base CX0 3 fP dP ["value"] (spPlace K) := ok_is_place FP T.toB0 C FI bI FW bW
  have GH : FnOk P w K mg base CX0 1 fH dH ["value", "least", "most"] (spWithin K) := ok_whole FH T.toB0
  refine okG F scChecks (fun vs H Q E h => ?_) (fun cdv A outer s H vs Q E hgd hr h => ?_)
  · obtain ⟨p, c, cells, n, rfl, _⟩ := h
    rfl
  · obtain ⟨p, c, cells, n, rfl, pen, hn, q⟩ := h
    have hr4 : Room 4 _ := hr
    have hr3 : Room 3 _ := hr.mono (by decide)
    have hr2 : Room 2 _ := hr.mono (by decide)
    have hr1 : Room 1 _ := hr.mono (by decide)
    refine ⟨_, (pss_cons (ps_for PassesOwn.never rfl (pi_range1 (by rfl) T.range (pa_cons pe_int pa_nil)) (pg_name (i := 1) scChecks.nd rfl (Or.inl rfl))
(pss_cons (ps_par3 (i := 2) (j := 3) (l := 4) (by rfl) scChecks.nd rfl rfl rfl (by decide) (by decide) (by decide) rfl rfl rfl (pa_cons (pe_call GV hr4 (by rfl) U.gV FV.kp bV .nil pass0 (pa_cons (pv 0) (pa_cons pe_int pa_nil))) (pa_cons (pe_op op_sub (pe_call GD hr1 (by rfl) U.gD FD.kp bD .nil pass0 (pa_cons (pv 0) (pa_cons pe_int pa_nil))) pe_int) (pa_cons (pe_call GD hr1 (by rfl) U.gD FD.kp bD .nil pass0 (pa_cons (pv 0) (pa_cons pe_int pa_nil))) pa_nil))) (by rfl))
(pss_cons (ps_set (i := 5) scChecks.nd rfl (Or.inl rfl) (pe_and (pe_callB (call_isD (c := "str")) (by rfl) T.isi (by decide +kernel) (pa_cons (pv 2) (pa_cons (pe_bltn (v := .ty "str") (by rfl) T.str (by decide +kernel) rfl) pa_nil))) (pe_and (pe_chain op_le op_le pe_int (pe_callB call_len (by rfl) T.len PySem.boot_len (pa_cons (pv 2) pa_nil)) pe_int) (pe_one (pe_cmpR (op_eqD hr.units) (pe_lc (own := [("one", 6)]) (g := gName 6) (by rfl) scChecks.nd (pi_str (pv 2)) (blkOk_by (own := [("one", 6)]) (N := ["pen", "turn", "value", "least", "most", "is_named", "one", "told", "due"]) (sc := defScope sChecks) (by decide +kernel)) (fun _ _ _ _ _ => pg_name (i := 6) scChecks.nd rfl (Or.inl rfl)) (fun _ _ _ _ _ => pts_one (pt_cmpR op_notIn_sign (pv 6) pe_str (by rfl))) (fun _ _ _ _ _ => pv 6)) (pe_lst pa_nil) (nomark _))))))
(pss_cons (ps_set (i := 7) scChecks.nd rfl (Or.inl rfl) (pe_lst (pa_cons (pe_call GI hr1 (by rfl) C.gI FI.kp bI .nil pass0 (pa_cons (pv 2) pa_nil)) (pa_cons (pe_call GW hr2 (by rfl) C.gW FW.kp bW .nil pass0 (pa_cons (pv 2) (pa_cons (pv 3) (pa_cons (pv 4) pa_nil)))) (pa_cons (pe_call GN hr1 (by rfl) gN FN.kp bN .nil pass0 (pa_cons (pv 2) pa_nil)) (pa_cons (pe_call GP hr3 (by rfl) gP FP.kp bP .nil pass0 (pa_cons (pv 2) pa_nil)) (pa_cons (pe_callK0 GI hr1 (by rfl) C.gI FI.kp kb.i pass0 (pk_cons (pv 2) pk_nil)) pa_nil)))))))
(pss_cons (ps_set (i := 7) scChecks.nd rfl (Or.inl rfl) (pe_op op_cat (pv 7) (pe_lst (pa_cons (pe_callK0 GW hr2 (by rfl) C.gW FW.kp kb.w pass0 (pk_cons (pv 4) (pk_cons (pv 3) (pk_cons (pv 2) pk_nil)))) (pa_cons (pe_callK0 GN hr1 (by rfl) gN FN.kp kb.n pass0 (pk_cons (pv 2) pk_nil)) (pa_cons (pe_callK0 GP hr3 (by rfl) gP FP.kp kb.p pass0 (pk_cons (pv 2) pk_nil)) pa_nil))))))
(pss_cons (ps_set (i := 8) scChecks.nd rfl (Or.inl rfl) (pe_lst (pa_cons (pe_call GH hr1 (by rfl) gH FH.kp bH .nil pass0 (pa_cons (pv 2) (pa_cons (pe_un un_neg (pe_op op_pow pe_int pe_int)) (pa_cons (pe_op op_pow pe_int pe_int) pa_nil)))) (pa_cons (pe_call GH hr1 (by rfl) gH FH.kp bH .nil pass0 (pa_cons (pv 2) (pa_cons (pv 3) (pa_cons (pv 4) pa_nil)))) (pa_cons (pv 5) (pa_cons (pe_call GH hr1 (by rfl) gH FH.kp bH .nil pass0 (pa_cons (pv 2) (pa_cons pe_int (pa_cons (pe_op op_sub (pe_op op_pow pe_int pe_int) pe_int) pa_nil)))) pa_nil))))))
(pss_one (ps_if (pt_cmpR op_ne (pe_callB (call_reprD hgd hr.units hb) (by rfl) T.repr (by decide +kernel) (pa_cons (pv 7) pa_nil)) (pe_callB (call_reprD hgd hr.units hb) (by rfl) T.repr (by decide +kernel) (pa_cons (pe_op op_rep (pv 8) pe_int) pa_nil)) (nomark _))
(pss_one (ps_ret pe_bl))
pss_nil))))))))
(pss_one (ps_ret pe_bl))), ?_⟩
    let Pv : Nat → L2.St → Hp → Prop := fun i σ H' => ∃ a1 a2 a3 a4 a5 a6 a7 a8, σ = [some (.ref p), a1, a2, a3, a4, a5, a6, a7, a8] ∧ PenAt H' p c cells (n + 10 * i)
    refine ⟨12, rfl, by decide, by decide, for_range (n := 12) Pv ?_ ?_ ?_⟩
    · exact ⟨_, _, _, _, _, _, _, _, rfl, pen⟩
    · rintro i σ H1 hi ⟨a1, a2, a3, a4, a5, a6, a7, a8, rfl, pe⟩
      have hp := pen_some pe
      refine ⟨_, rfl, p, c, cells, _, fun _ => none, rfl, pe, by omega, (fun _ _ z => nomatch z), (fun _ _ _ z => nomatch z), rfl, fun v d G H2 hv e2 p2 dv => ?_⟩
      refine ⟨_, rfl, p, c, cells, _, 9, rfl, p2, by omega, by decide, by decide, fun r1 H3 r10 r11 p3 k3 => ?_⟩
      refine ⟨_, 5, rfl, rfl, _, rfl, p, c, cells, _, 12, rfl, p3, by omega, by decide, by decide, fun r2 H4 r20 r21 p4 k4 => ?_⟩
      refine ⟨_, _, _, rfl, ?_⟩
      have d2 := Dv.mono e2.sub dv
      have D4 : DH p H1 (fun _ => none) H4 G := (e2.pen (pen_some p2) (e2.nop hp rfl) k3).pen (pen_some p3) (e2.nop hp rfl) k4
      have dv4 := Dv.mono D4.sub dv
      refine named_go dv4 (val_str hv) fun H5 s5 => ?_
      have dv5 := Dv.mono s5 dv4
      refine ⟨v, rfl, v, d, rfl, dv5, v, rfl, _, rfl, _, rfl, v, d, r1 - 5, r2, rfl, dv5, v, rfl, v, d, rfl, dv5, (fun x e => (val_str hv x e).1), fun H6 s6 => ?_⟩
      have dv6 := Dv.mono s6 dv5
      refine ⟨v, rfl, v, d, rfl, dv6, v, rfl, v, d, rfl, dv6, by show 5 ≤ sizeLine; decide, fun L hL => ?_⟩
      have s7 := same_new (o := .lst [.bl (isInt d), .bl (within (r1 - 5) r2 d), .bl (isName d), .bl (within 0 999999999 d), .bl (isInt d)]) hL
      have dv7 := Dv.mono s7 dv6
      refine ⟨.ref L, rfl, _, rfl, _, rfl, v, rfl, v, d, r1 - 5, r2, rfl, dv7, v, rfl, v, d, rfl, dv7, (fun x e => (val_str hv x e).1), fun H8 s8 => ?_⟩
      have dv8 := Dv.mono s8 dv7
      refine ⟨v, rfl, v, d, rfl, dv8, by show 3 ≤ sizeLine; decide, fun L2 hL2 => ?_⟩
      have s9 := same_new (o := .lst [.bl (within (r1 - 5) r2 d), .bl (isName d), .bl (within 0 999999999 d)]) hL2
      have dv9 := Dv.mono s9 dv8
      refine ⟨L, L2, _, _, rfl, rfl, s9 _ _ (s8 _ _ upd_same), upd_same, by show 8 ≤ sizeLine; decide, fun L3 hL3 => ?_⟩
      have sA := same_new (o := .lst ([.bl (isInt d), .bl (within (r1 - 5) r2 d), .bl (isName d), .bl (within 0 999999999 d), .bl (isInt d)] ++ [.bl (within (r1 - 5) r2 d), .bl (isName d), .bl (within 0 999999999 d)])) hL3
      have dvA := Dv.mono sA dv9
      have pw : CPow 10 60 := ⟨by decide, by decide, by decide⟩
      have pw9 : CPow 10 9 := ⟨by decide, by decide, by decide⟩
      refine ⟨v, rfl, 10, 60, rfl, rfl, pw, _, rfl, 10, 60, rfl, rfl, pw, v, d, -(10 ^ 60), 10 ^ 60, rfl, dvA, v, rfl, _, rfl, _, rfl, v, d, r1 - 5, r2, rfl, dvA, _, rfl, v, rfl, 10, 9, rfl, rfl, pw9, _, _, rfl, rfl, v, d, 0, 999999999, rfl, dvA, by show 4 ≤ sizeLine; decide, fun L4 hL4 => ?_⟩
      have sB := same_new (o := .lst [.bl (within (-(10 ^ 60)) (10 ^ 60) d), .bl (within (r1 - 5) r2 d), .bl (isName d), .bl (within 0 999999999 d)]) hL4
      let bs1 : List Bool := [isInt d, within (r1 - 5) r2 d, isName d, within 0 999999999 d, isInt d, within (r1 - 5) r2 d, isName d, within 0 999999999 d]
      let bs2 : List Bool := [within (-(10 ^ 60)) (10 ^ 60) d, within (r1 - 5) r2 d, isName d, within 0 999999999 d]
      have eb : bs2 ++ bs2 = bs1 := by simp only [bs1, bs2, ← val_int hv]; rfl
      refine ⟨.ref L3, rfl, .ref L3, .list (bs1.map PyData.bool), rfl, .lst (SqL.of (sB _ _ upd_same)) (dv_bools bs1), (sm_bools bs1 (show 8 ≤ 100 by decide)).sh, (sm_bools bs1 (show 8 ≤ 100 by decide)).ln, (sm_bools bs1 (show 8 ≤ 100 by decide)).dp, ?_⟩
      refine ⟨.ref L4, rfl, L4, 2, bs2.map V.bl, rfl, rfl, upd_same, by decide, by decide, (show 4 * 2 ≤ sizeLine by decide), fun L5 hL5 => ?_⟩
      have e5 : (List.replicate (2 : Int).toNat (bs2.map V.bl)).flatten = bs1.map V.bl := by rw [← eb, List.map_append]; rfl
      rw [e5]
      refine ⟨.ref L5, .list (bs1.map PyData.bool), rfl, .lst (SqL.of upd_same) (dv_bools bs1), (sm_bools bs1 (show 8 ≤ 100 by decide)).sh, (sm_bools bs1 (show 8 ≤ 100 by decide)).ln, (sm_bools bs1 (show 8 ≤ 100 by decide)).dp, rfl, _, rfl, ?_⟩
      refine ite2 (fun z => absurd z (by simp)) (fun _ => ?_)
      exact ⟨_, _, _, _, _, _, _, _, rfl, p4.mono (s5.trans (s6.trans (s7.trans (s8.trans (s9.trans (sA.trans (sB.trans (same_new hL5)))))))) (by omega)⟩
    · rintro σ H1 ⟨a1, a2, a3, a4, a5, a6, a7, a8, rfl, pe⟩
      exact q _
end
end K0
end

section
set_option Elab.async false
set_option linter.all false
set_option maxRecDepth 100000
set_option maxHeartbeats 4000000
/-! errors made of data, as one rule each -/
namespace K0
open PySem L2 KZ
def tUp (ta : TA) : TA := fun σ H Q => ∃ R : List V → Hp → Prop, ta σ H R ∧ ∀ vs H1, R vs H1 → Q vs H1
theorem pa_up {X : Cx} {es : List Expr} {ta : TA} (h : PA X es ta) : PA X es (tUp ta) :=
  ⟨fun pos pins s σ H Q I ⟨R, q, m⟩ => wpAny_mono (h.run pos pins s σ H R I q) (fun us s1 ⟨vs, H1, I1, r, z⟩ => ⟨vs, H1, I1, r, m _ _ z⟩) fun _ _ z => z⟩
theorem pk_up {X : Cx} {es : List Keyword} {ta : TA} (h : PK X es ta) : PK X es (tUp ta) :=
  ⟨fun pos pins s σ H Q I ⟨R, q, m⟩ => wpAny_mono (h.run pos pins s σ H R I q) (fun us s1 ⟨vs, H1, I1, r, z⟩ => ⟨vs, H1, I1, r, m _ _ z⟩) fun _ _ z => z⟩
theorem pe_conv {X : Cx} {e : Expr} {t u : TE} (h : PE X e t) (c : ∀ σ H Q, u σ H Q → t σ H Q) : PE X e u := ⟨fun pins s σ H Q I z => h.run pins s σ H Q I (c _ _ _ z)⟩
/-- at a: an error of the class C, its fields hold the data -/
def EAt (K : PySem.W.Frag) (H : Hp) (a C : Addr) (fds : List (Str × PyData)) : Prop :=
  ∃ dd fs, H a = some (EXO C a (some dd)) ∧ XD H dd fs ∧ ∀ p ∈ fds, ∃ v, fs.lookup p.1 = some v ∧ Dv K H v p.2
theorem XD.mono {H H' : Hp} {dd : Addr} {fs : List (Str × V)} (s : Same H H') (h : XD H dd fs) : XD H' dd fs := h.imp (s _ _) (s _ _)
theorem EAt.mono {K : PySem.W.Frag} {H H' : Hp} {a C : Addr} {fds : List (Str × PyData)} (s : Same H H') (h : EAt K H a C fds) : EAt K H' a C fds := by
  obtain ⟨dd, fs, e1, e2, e3⟩ := h
  exact ⟨dd, fs, s _ _ e1, XD.mono s e2, fun p hp => let ⟨v, l, d⟩ := e3 p hp; ⟨v, l, Dv.mono s d⟩⟩
/-- at a: an error of the class C -/
def IsErr (H : Hp) (a C : Addr) : Prop := ∃ d, H a = some (EXO C a d) ∧ ∀ dd, d = some dd → ∃ fs, XD H dd fs
theorem IsErr.mono {H H' : Hp} {a C : Addr} (s : Same H H') (h : IsErr H a C) : IsErr H' a C := by
  obtain ⟨d, e1, e2⟩ := h
  exact ⟨d, s _ _ e1, fun dd e => let ⟨fs, z⟩ := e2 dd e; ⟨fs, XD.mono s z⟩⟩
theorem EAt.is {K : PySem.W.Frag} {H : Hp} {a C : Addr} {fds : List (Str × PyData)} (h : EAt K H a C fds) : IsErr H a C := by
  obtain ⟨dd, fs, e1, e2, _⟩ := h
  exact ⟨some dd, e1, fun _ z => by cases z; exact ⟨fs, e2⟩⟩
theorem ef_go {K : PySem.W.Frag} {H : Hp} {a C : Addr} {fds : List (Str × PyData)} {n : Str} {d : PyData} {Q : V → Prop} (T : ExcT K C) (no : PySem.W.findIn K (.ref C) n = some none) (h : EAt K H a C fds) (hm : (n, d) ∈ fds) (q : ∀ v, Dv K H v d → Q v) :
    ∃ (a' C' dd : Addr) (fs : List (Str × V)) (v : V), V.ref a = .ref a' ∧ ExcT K C' ∧ PySem.W.findIn K (.ref C') n = some none ∧ H a' = some (EXO C' a' (some dd)) ∧ XD H dd fs ∧ fs.lookup n = some v ∧ Q v := by
  obtain ⟨dd, fs, e1, e2, e3⟩ := h
  obtain ⟨v, l, z⟩ := e3 _ hm
  exact ⟨a, C, dd, fs, v, rfl, T, no, e1, e2, l, q v z⟩
structure Mk1 (P : Program) (w : World) (K : PySem.W.Frag) (mg : Str → Option Value) (base : Heap) (nm : Str) (C : Addr) (x fld : Str) : Prop where
  has : ∃ fI dI, ErrC K mg nm C fI [fld] ∧ FnOk P w K mg base CX0 5 fI dI ["self", x] (spE1 K C fld) ∧ Binds K dI ["self", x] [] ∧ KBinds K dI ["self", x] [x] (fun us ws => us ++ ws.take 1) fun vs zs => vs ++ zs.take 1
structure Mk2 (P : Program) (w : World) (K : PySem.W.Frag) (mg : Str → Option Value) (base : Heap) (nm : Str) (C : Addr) (x y fld gld : Str) : Prop where
  has : ∃ fI dI, ErrC K mg nm C fI [fld, gld] ∧ FnOk P w K mg base CX0 5 fI dI ["self", x, y] (spE2 K C fld gld) ∧ Binds K dI ["self", x, y] [] ∧ KBinds K dI ["self", x, y] [y, x] (fun us ws => us ++ (ws.take 2).reverse) fun vs zs => vs ++ (zs.take 2).reverse
theorem Mk1.facts {P : Program} {w : World} {K : PySem.W.Frag} {mg : Str → Option Value} {base : Heap} {nm x fld : Str} {C : Addr} (M : Mk1 P w K mg base nm C x fld) : ExcT K C ∧ PySem.W.findIn K (.ref C) fld = some none :=
  let ⟨_, _, E, _⟩ := M.has
  ⟨E.ex, E.no _ List.mem_cons_self⟩
theorem Mk2.facts {P : Program} {w : World} {K : PySem.W.Frag} {mg : Str → Option Value} {base : Heap} {nm x y fld gld : Str} {C : Addr} (M : Mk2 P w K mg base nm C x y fld gld) : ExcT K C ∧ PySem.W.findIn K (.ref C) fld = some none ∧ PySem.W.findIn K (.ref C) gld = some none :=
  let ⟨_, _, E, _⟩ := M.has
  ⟨E.ex, E.no _ List.mem_cons_self, E.no _ (List.mem_cons_of_mem _ List.mem_cons_self)⟩
section
variable {K : PySem.W.Frag}
theorem e1_go {C a : Addr} {fld : Str} {v : V} {d : PyData} {G H : Hp} {Q : VK} (cp : Cp 3 d) (s : Same G H) (nf : NoFrz G) (hv : Dv K G v d) (ha : H a = none) (k : ∀ H', Same H H' → EAt K H' a C [(fld, d)] → Q (.ref a) H') :
    spE1 K C fld [.ref a, v] (upd H a (exo a C none)) (fun v H2 => v = .non ∧ ∃ d, H2 a = some (exo a C (some d)) ∧ Q (.ref a) (upd H2 a (EXO C a (some d)))) (fun _ _ _ => False) := by
  refine ⟨a, v, d, G, rfl, cp, s.trans (same_new ha), nf, s.free ha, hv, upd_same, fun v' G' dx H' s1 nf' bs ga gd hdx ne s' kp ea ed dv' => ⟨rfl, dx, ea, k _ (fun b o e => ?_) ⟨dx, [(fld, v')], upd_same, .inl (by rw [upd_ne ne]; exact ed), fun p hp => ?_⟩⟩⟩
  · have hb : b ≠ a := ne_of_none e ha
    rw [upd_ne hb]
    exact kp _ _ hb (by rw [upd_ne hb]; exact e)
  · rw [List.mem_singleton] at hp
    subst hp
    refine ⟨v', by simp, Dv.mono (fun b o e => ?_) dv'⟩
    rw [upd_ne (ne_of_none e ga)]
    exact s' _ _ e
theorem e2_go {C a : Addr} {fld gld : Str} {v u : V} {d e : PyData} {G H : Hp} {Q : VK} (hfg : gld ≠ fld) (cp : Cp 3 d) (cp2 : Cp 3 e) (s : Same G H) (nf : NoFrz G) (hv : Dv K G v d) (hu : Dv K G u e) (ha : H a = none) (k : ∀ H', Same H H' → EAt K H' a C [(fld, d), (gld, e)] → Q (.ref a) H') :
    spE2 K C fld gld [.ref a, v, u] (upd H a (exo a C none)) (fun v H2 => v = .non ∧ ∃ d, H2 a = some (exo a C (some d)) ∧ Q (.ref a) (upd H2 a (EXO C a (some d)))) (fun _ _ _ => False) := by
  refine ⟨a, v, u, d, e, G, rfl, cp, cp2, s.trans (same_new ha), nf, s.free ha, hv, hu, upd_same, fun v' u' G' dx H' s1 nf' bs ga gd hdx ne s' kp ea ed dv' du' => ⟨rfl, dx, ea, k _ (fun b o e => ?_) ⟨dx, [(gld, u'), (fld, v')], upd_same, .inl (by rw [upd_ne ne]; exact ed), fun p hp => ?_⟩⟩⟩
  · have hb : b ≠ a := ne_of_none e ha
    rw [upd_ne hb]
    exact kp _ _ hb (by rw [upd_ne hb]; exact e)
  · have m : Same G' (upd H' a (EXO C a (some dx))) := fun b o e => by
      rw [upd_ne (ne_of_none e ga)]
      exact s' _ _ e
    rcases List.mem_cons.mp hp with z | z
    · subst z
      refine ⟨v', ?_, Dv.mono m dv'⟩
      rw [List.lookup_cons]
      rw [show (fld == gld) = false from by simpa using fun z => hfg z.symm]
      simp
    · rw [List.mem_singleton] at z
      subst z
      exact ⟨u', by simp, Dv.mono m du'⟩
end
def tMk1 (K : PySem.W.Frag) (C : Addr) (fld : Str) (ta : TA) : TE := fun σ H Q => ta σ H fun vs H1 => ∃ v d G, vs = [v] ∧ Cp 3 d ∧ Same G H1 ∧ NoFrz G ∧ Dv K G v d ∧ ∀ a H', H1 a = none → Same H1 H' → EAt K H' a C [(fld, d)] → Q (.ref a) H'
def tMk2 (K : PySem.W.Frag) (C : Addr) (fld gld : Str) (ta : TA) : TE := fun σ H Q => ta σ H fun vs H1 => ∃ v u d e G, vs = [v, u] ∧ Cp 3 d ∧ Cp 3 e ∧ Same G H1 ∧ NoFrz G ∧ Dv K G v d ∧ Dv K G u e ∧ ∀ a H', H1 a = none → Same H1 H' → EAt K H' a C [(fld, d), (gld, e)] → Q (.ref a) H'
/-- the keywords the other way round -/
def tMkK2 (K : PySem.W.Frag) (C : Addr) (fld gld : Str) (ta : TA) : TE := fun σ H Q => ta σ H fun vs H1 => ∃ v u d e G, vs = [u, v] ∧ Cp 3 d ∧ Cp 3 e ∧ Same G H1 ∧ NoFrz G ∧ Dv K G v d ∧ Dv K G u e ∧ ∀ a H', H1 a = none → Same H1 H' → EAt K H' a C [(fld, d), (gld, e)] → Q (.ref a) H'
section
variable {X : Cx} {C : Addr} {nm x y fld gld : Str} {e e2 : Expr} {es : List Expr} {kws : List Keyword} {ta : TA} {p pos : Pos}
theorem pe_efK {te : TE} {n : Str} (K : PySem.W.Frag) (he : PE X e te) (hK : X.K = K := by rfl) (hb : attributeBase e n X.env (eval e X.env) = eval e X.env := by rfl) : PE X (.Attribute e n pos) (tEf K n te) := by
  subst hK
  exact pe_ef he hb
theorem pe_mk1 (M : Mk1 X.prog X.w X.K X.mg X.base nm C x fld) (hr : Room 6 X.A) (hg : Gl X nm) (ha : PA X [e] ta) (hdb : (nm == ("__debug__" : Str)) = false := by decide) (he : starEach [e] X.env = (false, eval e X.env) :: starEach [] X.env := by rfl) :
    PE X (.Call (.Name nm p) [e] [] pos) (tMk1 X.K C fld ta) := by
  obtain ⟨fI, dI, E, F, b, _⟩ := M.has
  refine pe_conv (pe_oex E.ox E.ini E.ti F hr b .nil pass0 hg E.gl (pa_up ha) hdb he) fun σ H Q h => ⟨_, h, ?_⟩
  rintro vs H1 ⟨v, d, G, rfl, cp, s, nf, hv, k⟩
  exact ⟨(show 1 ≤ 1000 by decide), fun a ha => e1_go cp s nf hv ha (k a · ha)⟩
theorem pe_mkK1 (M : Mk1 X.prog X.w X.K X.mg X.base nm C x fld) (hr : Room 6 X.A) (hg : Gl X nm) (hkw : PK X kws ta) (hall : (backToKw pos (keywordEach kws X.env)).all (·.1.isSome) = true := by rfl) (hks : (backToKw pos (keywordEach kws X.env)).filterMap (·.1) = [x] := by rfl)
    (hdb : (nm == ("__debug__" : Str)) = false := by decide) (hpl : ((backTo pos (starEach [] X.env)).any (·.1) || (backToKw pos (keywordEach kws X.env)).any (·.1.isNone)) = false := by rfl) : PE X (.Call (.Name nm p) [] kws pos) (tMk1 X.K C fld ta) := by
  obtain ⟨fI, dI, E, F, _, b⟩ := M.has
  refine pe_conv (pe_oexK0 E.ox E.ini E.ti F hr b pass0 hg E.gl (pk_up hkw) hall hks hdb hpl) fun σ H Q h => ⟨_, h, ?_⟩
  rintro vs H1 ⟨v, d, G, rfl, cp, s, nf, hv, k⟩
  exact fun a ha => e1_go cp s nf hv ha (k a · ha)
theorem pe_mk2 (hfg : gld ≠ fld) (M : Mk2 X.prog X.w X.K X.mg X.base nm C x y fld gld) (hr : Room 6 X.A) (hg : Gl X nm) (ha : PA X [e, e2] ta) (hdb : (nm == ("__debug__" : Str)) = false := by decide) (he : starEach [e, e2] X.env = (false, eval e X.env) :: starEach [e2] X.env := by rfl) (hpl : (backTo pos (starEach [e2] X.env)).any (·.1) = false := by rfl) :
    PE X (.Call (.Name nm p) [e, e2] [] pos) (tMk2 X.K C fld gld ta) := by
  obtain ⟨fI, dI, E, F, b, _⟩ := M.has
  refine pe_conv (pe_oex E.ox E.ini E.ti F hr b .nil pass0 hg E.gl (pa_up ha) hdb he hpl) fun σ H Q h => ⟨_, h, ?_⟩
  rintro vs H1 ⟨v, u, d, e, G, rfl, cp, cp2, s, nf, hv, hu, k⟩
  exact ⟨(show 2 ≤ 1000 by decide), fun a ha => e2_go hfg cp cp2 s nf hv hu ha (k a · ha)⟩
theorem pe_mkK2 (hfg : gld ≠ fld) (M : Mk2 X.prog X.w X.K X.mg X.base nm C x y fld gld) (hr : Room 6 X.A) (hg : Gl X nm) (hkw : PK X kws ta) (hall : (backToKw pos (keywordEach kws X.env)).all (·.1.isSome) = true := by rfl) (hks : (backToKw pos (keywordEach kws X.env)).filterMap (·.1) = [y, x] := by rfl)
    (hdb : (nm == ("__debug__" : Str)) = false := by decide) (hpl : ((backTo pos (starEach [] X.env)).any (·.1) || (backToKw pos (keywordEach kws X.env)).any (·.1.isNone)) = false := by rfl) : PE X (.Call (.Name nm p) [] kws pos) (tMkK2 X.K C fld gld ta) := by
  obtain ⟨fI, dI, E, F, _, b⟩ := M.has
  refine pe_conv (pe_oexK0 E.ox E.ini E.ti F hr b pass0 hg E.gl (pk_up hkw) hall hks hdb hpl) fun σ H Q h => ⟨_, h, ?_⟩
  rintro vs H1 ⟨v, u, d, e, G, rfl, cp, cp2, s, nf, hv, hu, k⟩
  exact fun a ha => e2_go hfg cp cp2 s nf hv hu ha (k a · ha)
end
end K0
end

section
set_option Elab.async false
set_option linter.all false
set_option maxRecDepth 100000
set_option maxHeartbeats 4000000
/-! what errors keep -/
namespace K0
open PySem L2 KZ
abbrev sKept : Stmt := top 168
structure Ms (P : Program) (w : World) (K : PySem.W.Frag) (mg : Str → Option Value) (base : Heap) (c : Nat → Addr) : Prop where
  BadName : Mk1 P w K mg base "BadName" (c 0) "value" "value"
  BadNumber : Mk1 P w K mg base "BadNumber" (c 1) "value" "value"
  BadBook : Mk1 P w K mg base "BadBook" (c 2) "part" "part"
  BadQuota : Mk1 P w K mg base "BadQuota" (c 3) "part" "part"
  BadRing : Mk1 P w K mg base "BadRing" (c 4) "part" "part"
  BadChange : Mk1 P w K mg base "BadChange" (c 5) "value" "value"
  BadLots : Mk1 P w K mg base "BadLots" (c 6) "part" "part"
  BadCare : Mk1 P w K mg base "BadCare" (c 7) "value" "value"
  BadStep : Mk1 P w K mg base "BadStep" (c 8) "value" "value"
  BadAsk : Mk1 P w K mg base "BadAsk" (c 9) "part" "part"
  BadPlayer : Mk1 P w K mg base "BadPlayer" (c 10) "part" "part"
  BadText : Mk2 P w K mg base "BadText" (c 11) "line" "word" "line" "word"
  BadCommand : Mk1 P w K mg base "BadCommand" (c 12) "word" "word"
  NoHost : Mk1 P w K mg base "NoHost" (c 13) "place" "place"
  NoLetter : Mk1 P w K mg base "NoLetter" (c 14) "number" "number"
  NoClient : Mk1 P w K mg base "NoClient" (c 15) "name" "name"
  NoEpoch : Mk1 P w K mg base "NoEpoch" (c 16) "number" "number"
  Clashing : Mk1 P w K mg base "Clashing" (c 17) "part" "part"
  TooMany : Mk2 P w K mg base "TooMany" (c 19) "what" "most" "what" "most"
theorem leaf_cp : ∀ d ∈ leafs, Cp 1 d := by
  intro d hd
  simp only [leafs, List.mem_cons, List.not_mem_nil, or_false] at hd
  rcases hd with rfl | rfl | rfl | rfl | rfl | rfl | rfl | rfl | rfl | rfl | rfl | rfl | rfl | rfl | rfl | rfl | rfl | rfl | rfl | rfl <;> simp [Cp]
theorem Cp.mono1 : ∀ {n : Nat} {d : PyData}, Cp n d → Cp (n + 1) d
  | _, .none, _ => trivial
  | _, .bool _, _ => trivial
  | _, .int _, _ => trivial
  | _, .str _, _ => trivial
  | n + 1, .list ds, h => ⟨h.1, fun d hd => Cp.mono1 (h.2 d hd)⟩
  | n + 1, .tuple ds, h => ⟨h.1, fun d hd => Cp.mono1 (h.2 d hd)⟩
  | _ + 1, .dict ps, h => h
theorem val_cp {d : PyData} (h : IsVal 1 d) : Cp 3 d := by
  rcases h with h | ⟨x, hx, y, hy, rfl⟩
  · exact Cp.mono1 (Cp.mono1 (leaf_cp d h))
  · refine ⟨(show 2 ≤ 100 by decide), fun z hz => ?_⟩
    rcases List.mem_cons.mp hz with rfl | hz
    · exact Cp.mono1 (leaf_cp _ hx)
    · rw [List.mem_singleton] at hz
      subst hz
      refine ⟨(show 1 ≤ 100 by decide), fun z hz => ?_⟩
      rw [List.mem_singleton] at hz
      subst hz
      exact leaf_cp _ hy
def tComp (K : PySem.W.Frag) (n : Str) : TE := tLc (iList K (tVar 3)) (gName 4) (tNot (tB (tCall (spSame K) [] E0 (tCons (tEf K n (tVar 4)) (tCons (tVar 1) tNil))))) (tVar 4) [4]
theorem comp_go {K : PySem.W.Frag} {n : Str} {a0 a2 a4 a5 a6 a7 a8 a9 : Option V} {v : V} {d : PyData} {l : Addr} {xs : List V} {H : Hp} {s1 s2 : TS} {D : Ends} (hl : SqL K H l xs)
    (hx : ∀ x ∈ xs, ∃ a C, x = .ref a ∧ ExcT K C ∧ PySem.W.findIn K (.ref C) n = some none ∧ EAt K H a C [(n, d)]) (dv : Dv K H v d) (sm : Sm 10000 40 d) (q : ∀ H', Same H H' → s2 D [a0, some v, a2, some (.ref l), a4, a5, a6, a7, a8, a9] H') :
    tSeq (tIfS (tTest (tOp (rNeD K) (tComp K n) (tLst tNil))) s1 tNext) s2 D [a0, some v, a2, some (.ref l), a4, a5, a6, a7, a8, a9] H := by
  refine ⟨_, rfl, l, rfl, ⟨_, hl⟩, fun D1 hD => lc_it (walk_list (xs := xs)) (fun _ H' => H' = upd H D1 (.lst [])) rfl (fun i H' _ e => ?_) ?_ ?_⟩
  · rw [e]
    exact (same_new hD).seq hl
  · rintro i y H1 H2 hi rfl ⟨rfl, hy⟩
    obtain ⟨a, C, rfl, T, no, ea⟩ := hx y (List.mem_of_getElem? hy)
    refine ⟨rfl, ?_⟩
    refine ⟨_, rfl, ef_go T no (ea.mono (same_new hD)) (List.mem_singleton.mpr rfl) fun v' dv' => ?_⟩
    exact ⟨v, rfl, v', v, d, rfl, dv', Dv.mono (same_new hD) dv, sm, true, rfl, iteF rfl⟩
  · rintro H1 rfl
    refine ⟨by show 0 ≤ sizeLine; decide, fun D2 hD2 => ?_⟩
    have nD : D1 ≠ D2 := fun z => by rw [z, upd_same] at hD2; cases hD2
    refine ⟨_, _, Dp.lst (SqL.of (by rw [upd_ne nD]; exact upd_same)) .nil, Dp.lst (SqL.of upd_same) .nil, by decide +kernel, by decide +kernel, _, rfl, ?_⟩
    refine ite2 (fun z => absurd z (by decide +kernel)) (fun _ => ?_)
    exact q _ ((same_new hD).trans (same_new hD2))
theorem val_sm1 {d : PyData} (h : IsVal 1 d) : Sm 10000 40 d := (val_small h).mono (by decide) (by decide)
theorem val_sm {ds : List PyData} (h : ∀ d ∈ ds, IsVal 1 d) (hl : ds.length ≤ 10) : Sm 10000 40 (.list ds) := (Sm.list fun d hd => val_small (h d hd)).mono (by omega) (by decide)
def spKept : Sp := fun vs H Q _ => ∃ (p c : Addr) (cells : List Int) (n : Nat), vs = [.ref p] ∧ PenAt H p c cells n ∧ n ≤ 4000 ∧ ∀ H', PenAt H' p c cells (n + 100) → Q (.bl true) H'
section
variable {P : Program} {w : World} {K : PySem.W.Frag} {mg : Str → Option Value} {base : Heap} {fD fO fV fS : Addr} {dD dO dV dS : FuncData} {c : Nat → Addr}
theorem scKept : FnScope ["pen", "value", "other", "some", "one", "word", "page", "many", "kept", "named"] ["pen"] (defScope sKept) := ⟨rfl, rfl, rfl, by decide +kernel, rfl, by decide +kernel, by decide +kernel⟩
theorem ok_kept (hb : ModsD base) {f : Addr} {fd : FuncData} (F : Fun K "_law_values_kept" "_law_values_kept" sKept f fd) (T : B1 mg) (U : D0 mg fD fO fV) (M : Ms P w K mg base c) (gS : mg "_law_same" = some (.ref fS))
    (FD : Fun K "_law_draw" "_law_draw" sDraw fD dD) (bD : Binds K dD ["pen", "many"] []) (FO : Fun K "_law_one" "_law_one" sOne fO dO) (bO : Binds K dO ["pen", "some"] []) (FV : Fun K "_law_value" "_law_value" sValue fV dV) (bV : Binds K dV ["pen", "deep"] [])
    (FS : Fun K "_law_same" "_law_same" sSame fS dS) (bS : Binds K dS ["one", "other"] []) : FnG P w K mg base CX0 7 f fd ["pen"] spKept := by
  have GV : FnOk P w K mg base CX0 4 fV dV ["pen", "deep"] (spVal 1 K) := ok_value1 FV T U FD bD FO bO bV
  have GS : FnG P w K mg base CX0 1 fS dS ["one", "other"] (spSame K) := ok_same hb FS T
  refine okG F scKept (fun vs H Q E h => ?_) (fun cdv A outer s H vs Q E hgd hr h => ?_)
  · obtain ⟨p, c, cells, n, rfl, _⟩ := h
    rfl
  · obtain ⟨p, pc, cells, n, rfl, pen, hn, q⟩ := h
    have hr6 : Room 6 _ := hr
    have hr4 : Room 4 _ := hr.mono (by decide)
    have hr1 : Room 1 _ := hr.mono (by decide)
    refine ⟨_, (pss_cons (ps_asg (pe_tup (pa_cons (pe_call GV hr4 (by rfl) U.gV FV.kp bV .nil pass0 (pa_cons (pv 0) (pa_cons pe_int pa_nil))) (pa_cons (pe_call GV hr4 (by rfl) U.gV FV.kp bV .nil pass0 (pa_cons (pv 0) (pa_cons pe_int pa_nil))) pa_nil))) (pg_tup rfl (pgs_cons (pg_name (i := 1) scKept.nd rfl (Or.inr rfl)) (pgs_cons (pg_name (i := 2) scKept.nd rfl (Or.inl rfl)) pgs_nil))))
(pss_cons (ps_set (i := 3) scKept.nd rfl (Or.inl rfl) (pe_lst (pa_cons (pe_mk1 M.BadName hr6 (by rfl) (pa_cons (pv 1) pa_nil)) (pa_cons (pe_mk1 M.BadNumber hr6 (by rfl) (pa_cons (pv 1) pa_nil)) (pa_cons (pe_mk1 M.BadChange hr6 (by rfl) (pa_cons (pv 1) pa_nil)) (pa_cons (pe_mk1 M.BadCare hr6 (by rfl) (pa_cons (pv 1) pa_nil)) (pa_cons (pe_mk1 M.BadStep hr6 (by rfl) (pa_cons (pv 1) pa_nil)) pa_nil)))))))
(pss_cons (ps_if (pt_cmpR (op_neD hr.units) (pe_lc (own := [("one", 4)]) (g := gName 4) (by rfl) scKept.nd (pi_list (pv 3)) (blkOk_by (own := [("one", 4)]) (N := ["pen", "value", "other", "some", "one", "word", "page", "many", "kept", "named"]) (sc := defScope sKept) (by decide +kernel)) (fun _ _ _ _ _ => pg_name (i := 4) scKept.nd rfl (Or.inl rfl)) (fun _ _ _ _ _ => pts_one (pt_not (pt_val (pe_callG GS (by exact hgd) hr1 (by rfl) gS FS.kp bS .nil pass0 (pa_cons (pe_efK K (pv 4)) (pa_cons (pv 1) pa_nil)))))) (fun _ _ _ _ _ => pv 4)) (pe_lst pa_nil) (nomark _))
(pss_one (ps_ret pe_bl))
pss_nil)
(pss_cons (ps_set (i := 3) scKept.nd rfl (Or.inl rfl) (pe_lst (pa_cons (pe_mk1 M.BadBook hr6 (by rfl) (pa_cons (pv 1) pa_nil)) (pa_cons (pe_mk1 M.BadQuota hr6 (by rfl) (pa_cons (pv 1) pa_nil)) (pa_cons (pe_mk1 M.BadRing hr6 (by rfl) (pa_cons (pv 1) pa_nil)) (pa_cons (pe_mk1 M.BadLots hr6 (by rfl) (pa_cons (pv 1) pa_nil)) (pa_cons (pe_mk1 M.BadAsk hr6 (by rfl) (pa_cons (pv 1) pa_nil)) (pa_cons (pe_mk1 M.BadPlayer hr6 (by rfl) (pa_cons (pv 1) pa_nil)) (pa_cons (pe_mk1 M.Clashing hr6 (by rfl) (pa_cons (pv 1) pa_nil)) pa_nil)))))))))
(pss_cons (ps_if (pt_cmpR (op_neD hr.units) (pe_lc (own := [("one", 4)]) (g := gName 4) (by rfl) scKept.nd (pi_list (pv 3)) (blkOk_by (own := [("one", 4)]) (N := ["pen", "value", "other", "some", "one", "word", "page", "many", "kept", "named"]) (sc := defScope sKept) (by decide +kernel)) (fun _ _ _ _ _ => pg_name (i := 4) scKept.nd rfl (Or.inl rfl)) (fun _ _ _ _ _ => pts_one (pt_not (pt_val (pe_callG GS (by exact hgd) hr1 (by rfl) gS FS.kp bS .nil pass0 (pa_cons (pe_efK K (pv 4)) (pa_cons (pv 1) pa_nil)))))) (fun _ _ _ _ _ => pv 4)) (pe_lst pa_nil) (nomark _))
(pss_one (ps_ret pe_bl))
pss_nil)
(pss_cons (ps_par3 (i := 5) (j := 6) (l := 7) (by rfl) scKept.nd rfl rfl rfl (by decide) (by decide) (by decide) rfl rfl rfl (pa_cons (pe_mk1 M.BadCommand hr6 (by rfl) (pa_cons (pv 1) pa_nil)) (pa_cons (pe_mk2 (by decide) M.BadText hr6 (by rfl) (pa_cons (pv 1) (pa_cons (pv 2) pa_nil))) (pa_cons (pe_mk2 (by decide) M.TooMany hr6 (by rfl) (pa_cons (pv 1) (pa_cons (pv 2) pa_nil))) pa_nil))) (by rfl))
(pss_cons (ps_if (pt_not (pt_val (pe_callG GS (by exact hgd) hr1 (by rfl) gS FS.kp bS .nil pass0 (pa_cons (pe_lst (pa_cons (pe_efK K (pv 5)) (pa_cons (pe_efK K (pv 6)) (pa_cons (pe_efK K (pv 6)) (pa_cons (pe_efK K (pv 7)) (pa_cons (pe_efK K (pv 7)) pa_nil)))))) (pa_cons (pe_lst (pa_cons (pv 1) (pa_cons (pv 1) (pa_cons (pv 2) (pa_cons (pv 1) (pa_cons (pv 2) pa_nil)))))) pa_nil)))))
(pss_one (ps_ret pe_bl))
pss_nil)
(pss_cons (ps_set (i := 8) scKept.nd rfl (Or.inl rfl) (pe_lst (pa_cons (pe_efK K (pe_mk1 M.NoHost hr6 (by rfl) (pa_cons (pv 1) pa_nil))) (pa_cons (pe_efK K (pe_mk1 M.NoLetter hr6 (by rfl) (pa_cons (pv 1) pa_nil))) (pa_cons (pe_efK K (pe_mk1 M.NoClient hr6 (by rfl) (pa_cons (pv 1) pa_nil))) (pa_cons (pe_efK K (pe_mk1 M.NoEpoch hr6 (by rfl) (pa_cons (pv 1) pa_nil))) pa_nil))))))
(pss_cons (ps_set (i := 9) scKept.nd rfl (Or.inl rfl) (pe_lst (pa_cons (pe_efK K (pe_mkK1 M.NoHost hr6 (by rfl) (pk_cons (pv 1) pk_nil))) (pa_cons (pe_efK K (pe_mkK2 (by decide) M.BadText hr6 (by rfl) (pk_cons (pv 2) (pk_cons (pv 1) pk_nil)))) (pa_cons (pe_efK K (pe_mkK2 (by decide) M.TooMany hr6 (by rfl) (pk_cons (pv 2) (pk_cons (pv 1) pk_nil)))) (pa_cons (pe_efK K (pe_mkK1 M.BadBook hr6 (by rfl) (pk_cons (pv 1) pk_nil))) pa_nil))))))
(pss_one (ps_ret (pe_and (pe_callG GS (by exact hgd) hr1 (by rfl) gS FS.kp bS .nil pass0 (pa_cons (pv 8) (pa_cons (pe_op op_rep (pe_lst (pa_cons (pv 1) pa_nil)) pe_int) pa_nil))) (pe_one (pe_callG GS (by exact hgd) hr1 (by rfl) gS FS.kp bS .nil pass0 (pa_cons (pv 9) (pa_cons (pe_lst (pa_cons (pv 1) (pa_cons (pv 1) (pa_cons (pv 2) (pa_cons (pv 1) pa_nil))))) pa_nil)))))))))))))))), ?_⟩
    refine ⟨_, rfl, p, pc, cells, n, fun _ => none, rfl, pen, by omega, (fun _ _ z => nomatch z), (fun _ _ _ z => nomatch z), rfl, fun v d G1 H1 hv e1 p1 dv1 => ?_⟩
    refine ⟨_, rfl, p, pc, cells, _, G1, rfl, p1, by omega, e1.sub, e1.nf, e1.nop (pen_some pen) rfl, fun u e G H2 hu e2 p2 du => ?_⟩
    have dv : Dv K G v d := Dv.mono e2.up dv1
    have cd := val_cp hv
    have ce := val_cp hu
    have nf := e2.nf
    refine ⟨by show 2 ≤ sizeLine; decide, fun t ht => ?_⟩
    have k0 : Same G (upd H2 t (.tup [v, u])) := e2.sub.trans (same_new ht)
    have pp : PenAt (upd H2 t (.tup [v, u])) p pc cells (n + 100) := p2.mono (same_new ht) (by omega)
    refine ⟨t, [v, u], rfl, .inl (.inl upd_same), rfl, ?_⟩
    clear ht pen p1 p2 e1 e2 dv1
    generalize upd H2 t (.tup [v, u]) = Hs at k0 pp ⊢
    have smd := val_sm1 hv
    refine ⟨v, [u], rfl, u, [], rfl, rfl, ?_⟩
    refine ⟨v, rfl, v, d, G, rfl, cd, k0, nf, dv, fun aA0 HA0 fA0 sA0 eA0 => ⟨v, rfl, v, d, G, rfl, cd, (k0.trans sA0), nf, dv, fun aA1 HA1 fA1 sA1 eA1 => ⟨v, rfl, v, d, G, rfl, cd, ((k0.trans sA0).trans sA1), nf, dv, fun aA2 HA2 fA2 sA2 eA2 => ⟨v, rfl, v, d, G, rfl, cd, (((k0.trans sA0).trans sA1).trans sA2), nf, dv, fun aA3 HA3 fA3 sA3 eA3 => ⟨v, rfl, v, d, G, rfl, cd, ((((k0.trans sA0).trans sA1).trans sA2).trans sA3), nf, dv, fun aA4 HA4 fA4 sA4 eA4 => ⟨by show 5 ≤ sizeLine; decide, fun lA fA => ?_⟩⟩⟩⟩⟩⟩
    have nA := same_new (o := .lst [V.ref aA0, V.ref aA1, V.ref aA2, V.ref aA3, V.ref aA4]) fA
    have SA := ((((((k0.trans sA0).trans sA1).trans sA2).trans sA3).trans sA4).trans nA)
    dsimp only [gName]
    refine comp_go (SqL.of upd_same) (List.forall_mem_cons.mpr ⟨⟨aA0, c 0, rfl, M.BadName.facts.1, M.BadName.facts.2, eA0.mono ((((sA1.trans sA2).trans sA3).trans sA4).trans nA)⟩, List.forall_mem_cons.mpr ⟨⟨aA1, c 1, rfl, M.BadNumber.facts.1, M.BadNumber.facts.2, eA1.mono (((sA2.trans sA3).trans sA4).trans nA)⟩, List.forall_mem_cons.mpr ⟨⟨aA2, c 5, rfl, M.BadChange.facts.1, M.BadChange.facts.2, eA2.mono ((sA3.trans sA4).trans nA)⟩, List.forall_mem_cons.mpr ⟨⟨aA3, c 7, rfl, M.BadCare.facts.1, M.BadCare.facts.2, eA3.mono (sA4.trans nA)⟩, List.forall_mem_cons.mpr ⟨⟨aA4, c 8, rfl, M.BadStep.facts.1, M.BadStep.facts.2, eA4.mono nA⟩, fun _ z => nomatch z⟩⟩⟩⟩⟩) (Dv.mono SA dv) smd fun HA sA => ?_
    have kA := SA.trans sA
    have pA := pp.mono ((((((sA0.trans sA1).trans sA2).trans sA3).trans sA4).trans nA).trans sA) (Nat.le_refl _)
    clear pp k0
    have k0 := kA
    have pp := pA
    clear kA pA
    refine ⟨v, rfl, v, d, G, rfl, cd, k0, nf, dv, fun aB0 HB0 fB0 sB0 eB0 => ⟨v, rfl, v, d, G, rfl, cd, (k0.trans sB0), nf, dv, fun aB1 HB1 fB1 sB1 eB1 => ⟨v, rfl, v, d, G, rfl, cd, ((k0.trans sB0).trans sB1), nf, dv, fun aB2 HB2 fB2 sB2 eB2 => ⟨v, rfl, v, d, G, rfl, cd, (((k0.trans sB0).trans sB1).trans sB2), nf, dv, fun aB3 HB3 fB3 sB3 eB3 => ⟨v, rfl, v, d, G, rfl, cd, ((((k0.trans sB0).trans sB1).trans sB2).trans sB3), nf, dv, fun aB4 HB4 fB4 sB4 eB4 => ⟨v, rfl, v, d, G, rfl, cd, (((((k0.trans sB0).trans sB1).trans sB2).trans sB3).trans sB4), nf, dv, fun aB5 HB5 fB5 sB5 eB5 => ⟨v, rfl, v, d, G, rfl, cd, ((((((k0.trans sB0).trans sB1).trans sB2).trans sB3).trans sB4).trans sB5), nf, dv, fun aB6 HB6 fB6 sB6 eB6 => ⟨by show 7 ≤ sizeLine; decide, fun lB fB => ?_⟩⟩⟩⟩⟩⟩⟩⟩
    have nB := same_new (o := .lst [V.ref aB0, V.ref aB1, V.ref aB2, V.ref aB3, V.ref aB4, V.ref aB5, V.ref aB6]) fB
    have SB := ((((((((k0.trans sB0).trans sB1).trans sB2).trans sB3).trans sB4).trans sB5).trans sB6).trans nB)
    dsimp only [gName]
    refine comp_go (SqL.of upd_same) (List.forall_mem_cons.mpr ⟨⟨aB0, c 2, rfl, M.BadBook.facts.1, M.BadBook.facts.2, eB0.mono ((((((sB1.trans sB2).trans sB3).trans sB4).trans sB5).trans sB6).trans nB)⟩, List.forall_mem_cons.mpr ⟨⟨aB1, c 3, rfl, M.BadQuota.facts.1, M.BadQuota.facts.2, eB1.mono (((((sB2.trans sB3).trans sB4).trans sB5).trans sB6).trans nB)⟩, List.forall_mem_cons.mpr ⟨⟨aB2, c 4, rfl, M.BadRing.facts.1, M.BadRing.facts.2, eB2.mono ((((sB3.trans sB4).trans sB5).trans sB6).trans nB)⟩, List.forall_mem_cons.mpr ⟨⟨aB3, c 6, rfl, M.BadLots.facts.1, M.BadLots.facts.2, eB3.mono (((sB4.trans sB5).trans sB6).trans nB)⟩, List.forall_mem_cons.mpr ⟨⟨aB4, c 9, rfl, M.BadAsk.facts.1, M.BadAsk.facts.2, eB4.mono ((sB5.trans sB6).trans nB)⟩, List.forall_mem_cons.mpr ⟨⟨aB5, c 10, rfl, M.BadPlayer.facts.1, M.BadPlayer.facts.2, eB5.mono (sB6.trans nB)⟩, List.forall_mem_cons.mpr ⟨⟨aB6, c 17, rfl, M.Clashing.facts.1, M.Clashing.facts.2, eB6.mono nB⟩, fun _ z => nomatch z⟩⟩⟩⟩⟩⟩⟩) (Dv.mono SB dv) smd fun HB sB => ?_
    have kB := SB.trans sB
    have pB := pp.mono ((((((((sB0.trans sB1).trans sB2).trans sB3).trans sB4).trans sB5).trans sB6).trans nB).trans sB) (Nat.le_refl _)
    clear pp k0
    have k0 := kB
    have pp := pB
    clear kB pB
    refine ⟨v, rfl, v, d, G, rfl, cd, k0, nf, dv, fun aW HW fW sW eW => ⟨v, rfl, u, rfl, v, u, d, e, G, rfl, cd, ce, k0.trans sW, nf, dv, du, fun aP HP fP sP eP => ⟨v, rfl, u, rfl, v, u, d, e, G, rfl, cd, ce, (k0.trans sW).trans sP, nf, dv, du, fun aM HM fM sM eM => ⟨.ref aW, .ref aP, .ref aM, rfl, ?_⟩⟩⟩⟩
    have kM := ((k0.trans sW).trans sP).trans sM
    have pM := pp.mono ((sW.trans sP).trans sM) (Nat.le_refl _)
    have eW' := eW.mono (sP.trans sM)
    have eP' := eP.mono sM
    refine ⟨.ref aW, rfl, ef_go M.BadCommand.facts.1 M.BadCommand.facts.2 eW' List.mem_cons_self fun w1 d1 => ⟨.ref aP, rfl, ef_go M.BadText.facts.1 M.BadText.facts.2.1 eP' List.mem_cons_self fun w2 d2 => ⟨.ref aP, rfl, ef_go M.BadText.facts.1 M.BadText.facts.2.2 eP' (List.mem_cons_of_mem _ List.mem_cons_self) fun w3 d3 => ⟨.ref aM, rfl, ef_go M.TooMany.facts.1 M.TooMany.facts.2.1 eM List.mem_cons_self fun w4 d4 => ⟨.ref aM, rfl, ef_go M.TooMany.facts.1 M.TooMany.facts.2.2 eM (List.mem_cons_of_mem _ List.mem_cons_self) fun w5 d5 => ⟨by show 5 ≤ sizeLine; decide, fun l1 f1 => ⟨v, rfl, v, rfl, u, rfl, v, rfl, u, rfl, by show 5 ≤ sizeLine; decide, fun l2 f2 => ?_⟩⟩⟩⟩⟩⟩⟩
    have n1 := same_new (o := .lst [w1, w2, w3, w4, w5]) f1
    have n2 := same_new (o := .lst [v, v, u, v, u]) f2
    have n12 := n1.trans n2
    have k2 := kM.trans n12
    have p2 := pM.mono n12 (Nat.le_refl _)
    have va := Dv.mono k2 dv
    have ua := Dv.mono k2 du
    refine ⟨.ref l1, .ref l2, .list [d, d, e, d, e], rfl, .lst (SqL.of (n2 _ _ upd_same)) (.cons (Dv.mono n12 d1) (.cons (Dv.mono n12 d2) (.cons (Dv.mono n12 d3) (.cons (Dv.mono n12 d4) (.cons (Dv.mono n12 d5) .nil))))), .lst (SqL.of upd_same) (.cons va (.cons va (.cons ua (.cons va (.cons ua .nil))))), val_sm (List.forall_mem_cons.mpr ⟨hv, List.forall_mem_cons.mpr ⟨hv, List.forall_mem_cons.mpr ⟨hu, List.forall_mem_cons.mpr ⟨hv, List.forall_mem_cons.mpr ⟨hu, fun _ z => nomatch z⟩⟩⟩⟩⟩) (show 5 ≤ 10 by decide), true, rfl, iteF ?_⟩
    clear eW eP eM eW' eP' n1 n2 n12 kM pM k0 pp d1 d2 d3 d4 d5 va ua sW sP sM
    generalize upd (upd HM l1 _) l2 _ = Hy at k2 p2 ⊢
    refine ⟨v, rfl, v, d, G, rfl, cd, k2, nf, dv, fun bK0 KK0 gK0 tK0 xK0 => ef_go M.NoHost.facts.1 M.NoHost.facts.2 xK0 List.mem_cons_self fun wK0 qK0 => ⟨v, rfl, v, d, G, rfl, cd, (k2.trans tK0), nf, dv, fun bK1 KK1 gK1 tK1 xK1 => ef_go M.NoLetter.facts.1 M.NoLetter.facts.2 xK1 List.mem_cons_self fun wK1 qK1 => ⟨v, rfl, v, d, G, rfl, cd, ((k2.trans tK0).trans tK1), nf, dv, fun bK2 KK2 gK2 tK2 xK2 => ef_go M.NoClient.facts.1 M.NoClient.facts.2 xK2 List.mem_cons_self fun wK2 qK2 => ⟨v, rfl, v, d, G, rfl, cd, (((k2.trans tK0).trans tK1).trans tK2), nf, dv, fun bK3 KK3 gK3 tK3 xK3 => ef_go M.NoEpoch.facts.1 M.NoEpoch.facts.2 xK3 List.mem_cons_self fun wK3 qK3 => ⟨by show 4 ≤ sizeLine; decide, fun lK fK => ?_⟩⟩⟩⟩⟩
    have nK := same_new (o := .lst [wK0, wK1, wK2, wK3]) fK
    have kK := (((((k2.trans tK0).trans tK1).trans tK2).trans tK3).trans nK)
    have pK := p2.mono ((((tK0.trans tK1).trans tK2).trans tK3).trans nK) (Nat.le_refl _)
    have cK : Dvs K (upd KK3 lK (.lst [wK0, wK1, wK2, wK3])) [wK0, wK1, wK2, wK3] [d, d, d, d] := (.cons (Dv.mono (((tK1.trans tK2).trans tK3).trans nK) qK0) (.cons (Dv.mono ((tK2.trans tK3).trans nK) qK1) (.cons (Dv.mono (tK3.trans nK) qK2) (.cons (Dv.mono nK qK3) .nil))))
    have hK : (upd KK3 lK (.lst [wK0, wK1, wK2, wK3])) lK = some (.lst [wK0, wK1, wK2, wK3]) := upd_same
    clear k2 p2
    generalize upd KK3 lK _ = Hz at kK pK hK cK ⊢
    refine ⟨v, rfl, v, d, G, rfl, cd, kK, nf, dv, fun bN0 KN0 gN0 tN0 xN0 => ef_go M.NoHost.facts.1 M.NoHost.facts.2 xN0 List.mem_cons_self fun wN0 qN0 => ⟨u, rfl, v, rfl, v, u, d, e, G, rfl, cd, ce, (kK.trans tN0), nf, dv, du, fun bN1 KN1 gN1 tN1 xN1 => ef_go M.BadText.facts.1 M.BadText.facts.2.1 xN1 List.mem_cons_self fun wN1 qN1 => ⟨u, rfl, v, rfl, v, u, d, e, G, rfl, cd, ce, ((kK.trans tN0).trans tN1), nf, dv, du, fun bN2 KN2 gN2 tN2 xN2 => ef_go M.TooMany.facts.1 M.TooMany.facts.2.2 xN2 (List.mem_cons_of_mem _ List.mem_cons_self) fun wN2 qN2 => ⟨v, rfl, v, d, G, rfl, cd, (((kK.trans tN0).trans tN1).trans tN2), nf, dv, fun bN3 KN3 gN3 tN3 xN3 => ef_go M.BadBook.facts.1 M.BadBook.facts.2 xN3 List.mem_cons_self fun wN3 qN3 => ⟨by show 4 ≤ sizeLine; decide, fun lN fN => ?_⟩⟩⟩⟩⟩
    have nN := same_new (o := .lst [wN0, wN1, wN2, wN3]) fN
    have kN := (((((kK.trans tN0).trans tN1).trans tN2).trans tN3).trans nN)
    have pN := pK.mono ((((tN0.trans tN1).trans tN2).trans tN3).trans nN) (Nat.le_refl _)
    have cN : Dvs K (upd KN3 lN (.lst [wN0, wN1, wN2, wN3])) [wN0, wN1, wN2, wN3] [d, d, e, d] := (.cons (Dv.mono (((tN1.trans tN2).trans tN3).trans nN) qN0) (.cons (Dv.mono ((tN2.trans tN3).trans nN) qN1) (.cons (Dv.mono (tN3.trans nN) qN2) (.cons (Dv.mono nN qN3) .nil))))
    have hN : (upd KN3 lN (.lst [wN0, wN1, wN2, wN3])) lN = some (.lst [wN0, wN1, wN2, wN3]) := upd_same
    have sN := (((tN0.trans tN1).trans tN2).trans tN3).trans nN
    have hK2 := sN _ _ hK
    have cK2 := Dvs.mono sN cK
    generalize upd KN3 lN _ = Hw at kN pN hN cN hK2 cK2 ⊢
    refine ⟨.ref lK, rfl, v, rfl, by show 1 ≤ sizeLine; decide, fun l3 f3 => ⟨l3, 4, [v], rfl, rfl, upd_same, by decide, by decide, (show 1 * 4 ≤ sizeLine by decide), fun l4 f4 => ?_⟩⟩
    have n34 := (same_new (o := .lst [v]) f3).trans (same_new (o := .lst [v, v, v, v]) f4)
    have k4 := kN.trans n34
    have va := Dv.mono k4 dv
    refine ⟨.ref lK, .ref l4, .list [d, d, d, d], rfl, .lst (SqL.of (n34 _ _ hK2)) (Dvs.mono n34 cK2), .lst (SqL.of upd_same) (.cons va (.cons va (.cons va (.cons va .nil)))), val_sm (List.forall_mem_cons.mpr ⟨hv, List.forall_mem_cons.mpr ⟨hv, List.forall_mem_cons.mpr ⟨hv, List.forall_mem_cons.mpr ⟨hv, fun _ z => nomatch z⟩⟩⟩⟩) (show 4 ≤ 10 by decide), true, rfl, iteT ?_⟩
    refine ⟨.ref lN, rfl, v, rfl, v, rfl, u, rfl, v, rfl, by show 4 ≤ sizeLine; decide, fun l5 f5 => ?_⟩
    have n5 := same_new (o := .lst [v, v, u, v]) f5
    have vb := Dv.mono n5 va
    have ub := Dv.mono (k4.trans n5) du
    refine ⟨.ref lN, .ref l5, .list [d, d, e, d], rfl, .lst (SqL.of (n5 _ _ (n34 _ _ hN))) (Dvs.mono (n34.trans n5) cN), .lst (SqL.of upd_same) (.cons vb (.cons vb (.cons ub (.cons vb .nil)))), val_sm (List.forall_mem_cons.mpr ⟨hv, List.forall_mem_cons.mpr ⟨hv, List.forall_mem_cons.mpr ⟨hu, List.forall_mem_cons.mpr ⟨hv, fun _ z => nomatch z⟩⟩⟩⟩) (show 4 ≤ 10 by decide), ?_⟩
    exact q _ (pN.mono (n34.trans n5) (Nat.le_refl _))
end
end K0
end

section
set_option Elab.async false
set_option linter.all false
set_option maxRecDepth 100000
set_option maxHeartbeats 4000000
/-! errors told apart -/
namespace K0
open PySem L2 KZ
abbrev sApart : Stmt := top 169
theorem ix_listK {X : Cx} (K : PySem.W.Frag) (hK : X.K = K := by rfl) : IxR X (rIxL K) := by
  subst hK
  exact ix_list
structure Ki (K : PySem.W.Frag) (c : Nat → Addr) (cO : Addr) : Prop where
  t : ∀ i, i < 20 → ExcT K (c i)
  k : ∀ i, i < 20 → ∀ j, j < 20 → PySem.W.kitOne K (.ref (c i)) (.ref (c j)) = some (decide (i = j))
  o : ∀ i, i < 20 → PySem.W.kitOne K (.ref (c i)) (.ref cO) = some true
  v : ∀ i, i < 20 → PySem.W.kitOne K (.ref (c i)) (.type "ValueError") = some true
def ename : Nat → Str
  | 0 => "BadName" | 1 => "BadNumber" | 2 => "BadBook" | 3 => "BadQuota" | 4 => "BadRing" | 5 => "BadChange" | 6 => "BadLots" | 7 => "BadCare" | 8 => "BadStep" | 9 => "BadAsk" | 10 => "BadPlayer" | 11 => "BadText"
  | 12 => "BadCommand" | 13 => "NoHost" | 14 => "NoLetter" | 15 => "NoClient" | 16 => "NoEpoch" | 17 => "Clashing" | 18 => "Nothing" | _ => "TooMany"
def spApart (K : PySem.W.Frag) (c : Nat → Addr) : Sp := fun vs H Q _ => ∃ (l : Addr) (as : Nat → Addr), vs = [.ref l] ∧ SqL K H l ((List.range 20).map fun j => V.ref (as j)) ∧ (∀ i, i < 20 → IsErr H (as i) (c i)) ∧ ∀ H', Same H H' → Q (.bl true) H'
theorem kinds_eq (i : Nat) : (List.range 20).map (fun j => V.bl (decide (i = j))) = ((([V.bl (decide (i = 0)), V.bl (decide (i = 1)), V.bl (decide (i = 2)), V.bl (decide (i = 3))] ++ [V.bl (decide (i = 4)), V.bl (decide (i = 5)), V.bl (decide (i = 6)), V.bl (decide (i = 7))]) ++ [V.bl (decide (i = 8)), V.bl (decide (i = 9)), V.bl (decide (i = 10)), V.bl (decide (i = 11))]) ++ [V.bl (decide (i = 12)), V.bl (decide (i = 13)), V.bl (decide (i = 14)), V.bl (decide (i = 15))]) ++ [V.bl (decide (i = 16)), V.bl (decide (i = 17)), V.bl (decide (i = 18)), V.bl (decide (i = 19))] := rfl
theorem eqv_one (i : Int) : PyData.eqv (.list [.int i]) (.list [.int i]) = true := by
  simp only [PyData.eqv, PyData.eqvAll, beq_self_eq_true, Bool.and_self]
theorem apart_go {K : PySem.W.Frag} {a0 a4 : Option V} {i : Nat} {a C cO lk : Addr} {od : Option Addr} {H : Hp} {s1 : TS} {D : Ends} (hi : i < 20) (hk : H lk = some (.lst ((List.range 20).map fun j => V.bl (decide (i = j))))) (T : ExcT K C)
    (ko : PySem.W.kitOne K (.ref C) (.ref cO) = some true) (kv : PySem.W.kitOne K (.ref C) (.type "ValueError") = some true) (er : ∀ H', Same H H' → H' a = some (EXO C a od) ∧ ∀ dd, od = some dd → ∃ fs, XD H' dd fs)
    (q : ∀ H', Same H H' → D.nx [a0, some (.int (i : Nat)), some (.ref a), some (.ref lk), a4] H') :
    tIfS (tOr (tTest (tOp (rNeD K) (tLc (iRng1 (tCons (tC (.int 20)) tNil)) (gName 4) (tB (tOp (rIxL K) (tVar 3) (tVar 4))) (tVar 4) [4]) (tLst (tCons (tVar 1) tNil))))
      (tOr (tNot (tB (tCB (rIsE K) (tCons (tVar 2) (tCons (tC (.ref cO)) tNil))))) (tNot (tB (tCB (rIsE K) (tCons (tVar 2) (tCons (tC (.ty "ValueError")) tNil))))))) s1 tNext D [a0, some (.int (i : Nat)), some (.ref a), some (.ref lk), a4] H := by
  refine ⟨20, rfl, by decide, by decide, fun D1 hD => lc_it (walk_range (lo := 0) (n := 20)) (fun j H' => H' = upd H D1 (.lst (if i < j then [V.int (i : Nat)] else []))) rfl (fun _ _ _ _ => True.intro) ?_ ?_⟩
  · rintro j y H1 H2 hj rfl hy
    obtain ⟨rfl, rfl⟩ := hy
    have ej : ((List.range 20).map fun j => V.bl (decide (i = j)))[j]? = some (V.bl (decide (i = j))) := by rw [List.getElem?_map, List.getElem?_range hj]; rfl
    refine ⟨rfl, .ref lk, rfl, _, rfl, lk, _, _, V.bl (decide (i = j)), rfl, rfl, SqL.of (by rw [upd_ne (fun z => by rw [z, hD] at hk; cases hk)]; exact hk), by rw [Int.zero_add]; exact atI_nat ej, _, rfl, ?_⟩
    refine ite2 (fun z => ?_) (fun z => ?_)
    · have e : i = j := of_decide_eq_true z
      subst e
      refine ⟨_, rfl, _, upd_same, ?_, ?_⟩
      · rw [if_neg (Nat.lt_irrefl i)]
        decide
      · rw [upd_upd, if_neg (Nat.lt_irrefl i), if_pos (Nat.lt_succ_self i)]
        dsimp only
        rw [Int.zero_add]
        rfl
    · have e : i ≠ j := fun e => z (decide_eq_true e)
      by_cases h : i < j
      · rw [if_pos h, if_pos (by omega)]
      · rw [if_neg h, if_neg (by omega)]
  · rintro H1 rfl
    rw [if_pos hi]
    refine ⟨_, rfl, by show 1 ≤ sizeLine; decide, fun D2 hD2 => ?_⟩
    have nD : D1 ≠ D2 := fun z => by rw [z, upd_same] at hD2; cases hD2
    have ss := (same_new (o := .lst [V.int (i : Nat)]) hD).trans (same_new (o := .lst [V.int (i : Nat)]) hD2)
    refine ⟨.list [.int (i : Nat)], .list [.int (i : Nat)], Dp.lst (SqL.of (by rw [upd_ne nD]; exact upd_same)) (.cons (.int _) .nil), Dp.lst (SqL.of upd_same) (.cons (.int _) .nil), shaped_ints [(i : Int)], shaped_ints [(i : Int)], _, rfl, ?_⟩
    rw [eqv_one]
    obtain ⟨e1, e2⟩ := er _ ss
    refine ⟨.ref a, rfl, a, C, od, .ref cO, .ref cO, true, rfl, .own _, T, e1, e2, ko, true, rfl, ?_⟩
    refine ⟨.ref a, rfl, a, C, od, .ty "ValueError", .type "ValueError", true, rfl, .ty _, T, e1, e2, kv, true, rfl, ?_⟩
    exact q _ ss
section
variable {P : Program} {w : World} {K : PySem.W.Frag} {mg : Str → Option Value} {base : Heap} {c : Nat → Addr} {cO : Addr}
theorem scApart : FnScope ["some", "at", "one", "kinds", "k"] ["some"] (defScope sApart) := ⟨rfl, rfl, rfl, by decide +kernel, rfl, by decide +kernel, by decide +kernel⟩
theorem ok_apart {f : Addr} {fd : FuncData} (F : Fun K "_law_apart" "_law_apart" sApart f fd) (T : B1 mg) (Z : Ki K c cO) (g : ∀ i, i < 20 → mg (ename i) = some (.ref (c i))) (gO : mg "OpenError" = some (.ref cO)) (gV : mg "ValueError" = none) : FnOk P w K mg base CX0 1 f fd ["some"] (spApart K c) := by
  refine F.ok scApart (fun vs H Q E h => ?_) (fun cdv A outer s H vs Q E hr h => ?_)
  · obtain ⟨l, as, rfl, _⟩ := h
    rfl
  · obtain ⟨l, as, rfl, hl, he, q⟩ := h
    refine ⟨_, (pss_cons (ps_for PassesOwn.never rfl (pi_enum (by rfl) T.enum (pa_cons (pv 0) pa_nil)) (pg_tup rfl (pgs_cons (pg_name (i := 1) scApart.nd rfl (Or.inl rfl)) (pgs_cons (pg_name (i := 2) scApart.nd rfl (Or.inl rfl)) pgs_nil)))
(pss_cons (ps_set (i := 3) scApart.nd rfl (Or.inr rfl) (pe_lst (pa_cons (pe_callB call_isE (by rfl) T.isi (by decide +kernel) (pa_cons (pv 2) (pa_cons (pe_glob (v := .ref (c 0)) (by rfl) (g 0 (by decide)) rfl) pa_nil))) (pa_cons (pe_callB call_isE (by rfl) T.isi (by decide +kernel) (pa_cons (pv 2) (pa_cons (pe_glob (v := .ref (c 1)) (by rfl) (g 1 (by decide)) rfl) pa_nil))) (pa_cons (pe_callB call_isE (by rfl) T.isi (by decide +kernel) (pa_cons (pv 2) (pa_cons (pe_glob (v := .ref (c 2)) (by rfl) (g 2 (by decide)) rfl) pa_nil))) (pa_cons (pe_callB call_isE (by rfl) T.isi (by decide +kernel) (pa_cons (pv 2) (pa_cons (pe_glob (v := .ref (c 3)) (by rfl) (g 3 (by decide)) rfl) pa_nil))) pa_nil))))))
(pss_cons (ps_set (i := 3) scApart.nd rfl (Or.inr rfl) (pe_op op_cat (pv 3) (pe_lst (pa_cons (pe_callB call_isE (by rfl) T.isi (by decide +kernel) (pa_cons (pv 2) (pa_cons (pe_glob (v := .ref (c 4)) (by rfl) (g 4 (by decide)) rfl) pa_nil))) (pa_cons (pe_callB call_isE (by rfl) T.isi (by decide +kernel) (pa_cons (pv 2) (pa_cons (pe_glob (v := .ref (c 5)) (by rfl) (g 5 (by decide)) rfl) pa_nil))) (pa_cons (pe_callB call_isE (by rfl) T.isi (by decide +kernel) (pa_cons (pv 2) (pa_cons (pe_glob (v := .ref (c 6)) (by rfl) (g 6 (by decide)) rfl) pa_nil))) (pa_cons (pe_callB call_isE (by rfl) T.isi (by decide +kernel) (pa_cons (pv 2) (pa_cons (pe_glob (v := .ref (c 7)) (by rfl) (g 7 (by decide)) rfl) pa_nil))) pa_nil)))))))
(pss_cons (ps_set (i := 3) scApart.nd rfl (Or.inr rfl) (pe_op op_cat (pv 3) (pe_lst (pa_cons (pe_callB call_isE (by rfl) T.isi (by decide +kernel) (pa_cons (pv 2) (pa_cons (pe_glob (v := .ref (c 8)) (by rfl) (g 8 (by decide)) rfl) pa_nil))) (pa_cons (pe_callB call_isE (by rfl) T.isi (by decide +kernel) (pa_cons (pv 2) (pa_cons (pe_glob (v := .ref (c 9)) (by rfl) (g 9 (by decide)) rfl) pa_nil))) (pa_cons (pe_callB call_isE (by rfl) T.isi (by decide +kernel) (pa_cons (pv 2) (pa_cons (pe_glob (v := .ref (c 10)) (by rfl) (g 10 (by decide)) rfl) pa_nil))) (pa_cons (pe_callB call_isE (by rfl) T.isi (by decide +kernel) (pa_cons (pv 2) (pa_cons (pe_glob (v := .ref (c 11)) (by rfl) (g 11 (by decide)) rfl) pa_nil))) pa_nil)))))))
(pss_cons (ps_set (i := 3) scApart.nd rfl (Or.inr rfl) (pe_op op_cat (pv 3) (pe_lst (pa_cons (pe_callB call_isE (by rfl) T.isi (by decide +kernel) (pa_cons (pv 2) (pa_cons (pe_glob (v := .ref (c 12)) (by rfl) (g 12 (by decide)) rfl) pa_nil))) (pa_cons (pe_callB call_isE (by rfl) T.isi (by decide +kernel) (pa_cons (pv 2) (pa_cons (pe_glob (v := .ref (c 13)) (by rfl) (g 13 (by decide)) rfl) pa_nil))) (pa_cons (pe_callB call_isE (by rfl) T.isi (by decide +kernel) (pa_cons (pv 2) (pa_cons (pe_glob (v := .ref (c 14)) (by rfl) (g 14 (by decide)) rfl) pa_nil))) (pa_cons (pe_callB call_isE (by rfl) T.isi (by decide +kernel) (pa_cons (pv 2) (pa_cons (pe_glob (v := .ref (c 15)) (by rfl) (g 15 (by decide)) rfl) pa_nil))) pa_nil)))))))
(pss_cons (ps_set (i := 3) scApart.nd rfl (Or.inr rfl) (pe_op op_cat (pv 3) (pe_lst (pa_cons (pe_callB call_isE (by rfl) T.isi (by decide +kernel) (pa_cons (pv 2) (pa_cons (pe_glob (v := .ref (c 16)) (by rfl) (g 16 (by decide)) rfl) pa_nil))) (pa_cons (pe_callB call_isE (by rfl) T.isi (by decide +kernel) (pa_cons (pv 2) (pa_cons (pe_glob (v := .ref (c 17)) (by rfl) (g 17 (by decide)) rfl) pa_nil))) (pa_cons (pe_callB call_isE (by rfl) T.isi (by decide +kernel) (pa_cons (pv 2) (pa_cons (pe_glob (v := .ref (c 18)) (by rfl) (g 18 (by decide)) rfl) pa_nil))) (pa_cons (pe_callB call_isE (by rfl) T.isi (by decide +kernel) (pa_cons (pv 2) (pa_cons (pe_glob (v := .ref (c 19)) (by rfl) (g 19 (by decide)) rfl) pa_nil))) pa_nil)))))))
(pss_one (ps_if (PW.pt (pw_or (pt_cmpR (op_neD hr.units) (pe_lc (own := [("k", 4)]) (g := gName 4) (by rfl) scApart.nd (pi_range1 (by rfl) T.range (pa_cons pe_int pa_nil)) (blkOk_by (own := [("k", 4)]) (N := ["some", "at", "one", "kinds", "k"]) (sc := defScope sApart) (by decide +kernel)) (fun _ _ _ _ _ => pg_name (i := 4) scApart.nd rfl (Or.inl rfl)) (fun _ _ _ _ _ => pts_one (pt_val (pe_ix (ix_listK K) (pv 3) (pv 4) (fun _ _ => rfl)))) (fun _ _ _ _ _ => pv 4)) (pe_lst (pa_cons (pv 1) pa_nil)) (nomark _)) (pw_or (pt_not (pt_val (pe_callB call_isE (by rfl) T.isi (by decide +kernel) (pa_cons (pv 2) (pa_cons (pe_glob (v := .ref cO) (by rfl) gO rfl) pa_nil))))) (pw_or1 (pt_not (pt_val (pe_callB call_isE (by rfl) T.isi (by decide +kernel) (pa_cons (pv 2) (pa_cons (pe_bltn (v := .ty "ValueError") (by rfl) gV (by decide +kernel) rfl) pa_nil)))))))))
(pss_one (ps_ret pe_bl))
pss_nil))))))))
(pss_one (ps_ret pe_bl))), ?_⟩
    refine ⟨_, rfl, l, _, rfl, hl, for_it (walk_enum (K := K) (a := l) (xs := (List.range 20).map fun j => V.ref (as j))) (fun _ σ H' => ∃ x1 x2 x3 x4, σ = [some (.ref l), x1, x2, x3, x4] ∧ Same H H') ⟨_, _, _, _, rfl, Same.refl H⟩ (fun i σ H' _ ⟨_, _, _, _, _, z⟩ => z.seq hl) ?_ ?_⟩
    · rintro i x σ H0 H1 hi' ⟨x1, x2, x3, x4, rfl, sH0⟩ ⟨T0, xa, xb, rfl, hT0, rfl, ea, eb⟩
      have hi : i < 20 := by simpa using hi'
      cases ea
      have eb' : xb = .ref (as i) := by
        dsimp only at eb
        rw [List.getElem?_map, List.getElem?_range hi] at eb
        exact (Option.some.inj eb).symm
      subst eb'
      have sH := sH0.trans (same_new (o := .tup [.int (i : Nat), .ref (as i)]) hT0)
      have er : ∀ i, i < 20 → ∀ H', Same H H' → ∃ d, H' (as i) = some (EXO (c i) (as i) d) ∧ ∀ dd, d = some dd → ∃ fs, XD H' dd fs := fun i hi H' s => (he i hi).mono s
      refine ⟨T0, [.int (i : Nat), .ref (as i)], rfl, .inl (.inl upd_same), rfl, _, _, rfl, _, _, rfl, rfl, ?_⟩
      clear eb hi'
      generalize upd H0 T0 _ = H1 at sH ⊢
      obtain ⟨dd0, e0⟩ := er i hi H1 sH
      refine ⟨.ref (as i), rfl, as i, c i, _, .ref (c 0), .ref (c 0), _, rfl, .own _, Z.t i hi, e0.1, e0.2, Z.k i hi 0 (by decide), .ref (as i), rfl, as i, c i, _, .ref (c 1), .ref (c 1), _, rfl, .own _, Z.t i hi, e0.1, e0.2, Z.k i hi 1 (by decide), .ref (as i), rfl, as i, c i, _, .ref (c 2), .ref (c 2), _, rfl, .own _, Z.t i hi, e0.1, e0.2, Z.k i hi 2 (by decide), .ref (as i), rfl, as i, c i, _, .ref (c 3), .ref (c 3), _, rfl, .own _, Z.t i hi, e0.1, e0.2, Z.k i hi 3 (by decide), by show 4 ≤ sizeLine; decide, fun l0 f0 => ?_⟩
      have n0 := same_new (o := .lst [V.bl (decide (i = 0)), V.bl (decide (i = 1)), V.bl (decide (i = 2)), V.bl (decide (i = 3))]) f0
      have s1 := sH.trans n0
      obtain ⟨dd1, e1⟩ := er i hi _ s1
      refine ⟨.ref l0, rfl, .ref (as i), rfl, as i, c i, _, .ref (c 4), .ref (c 4), _, rfl, .own _, Z.t i hi, e1.1, e1.2, Z.k i hi 4 (by decide), .ref (as i), rfl, as i, c i, _, .ref (c 5), .ref (c 5), _, rfl, .own _, Z.t i hi, e1.1, e1.2, Z.k i hi 5 (by decide), .ref (as i), rfl, as i, c i, _, .ref (c 6), .ref (c 6), _, rfl, .own _, Z.t i hi, e1.1, e1.2, Z.k i hi 6 (by decide), .ref (as i), rfl, as i, c i, _, .ref (c 7), .ref (c 7), _, rfl, .own _, Z.t i hi, e1.1, e1.2, Z.k i hi 7 (by decide), by show 4 ≤ sizeLine; decide, fun t1 g1 => ?_⟩
      have m1 := same_new (o := .lst [V.bl (decide (i = 4)), V.bl (decide (i = 5)), V.bl (decide (i = 6)), V.bl (decide (i = 7))]) g1
      refine ⟨l0, t1, _, _, rfl, rfl, m1 _ _ upd_same, upd_same, by show 8 ≤ sizeLine; decide, fun l1 f1 => ?_⟩
      have n1 := same_new (o := .lst ([V.bl (decide (i = 0)), V.bl (decide (i = 1)), V.bl (decide (i = 2)), V.bl (decide (i = 3))] ++ [V.bl (decide (i = 4)), V.bl (decide (i = 5)), V.bl (decide (i = 6)), V.bl (decide (i = 7))])) f1
      have s2 := s1.trans (m1.trans n1)
      obtain ⟨dd2, e2⟩ := er i hi _ s2
      refine ⟨.ref l1, rfl, .ref (as i), rfl, as i, c i, _, .ref (c 8), .ref (c 8), _, rfl, .own _, Z.t i hi, e2.1, e2.2, Z.k i hi 8 (by decide), .ref (as i), rfl, as i, c i, _, .ref (c 9), .ref (c 9), _, rfl, .own _, Z.t i hi, e2.1, e2.2, Z.k i hi 9 (by decide), .ref (as i), rfl, as i, c i, _, .ref (c 10), .ref (c 10), _, rfl, .own _, Z.t i hi, e2.1, e2.2, Z.k i hi 10 (by decide), .ref (as i), rfl, as i, c i, _, .ref (c 11), .ref (c 11), _, rfl, .own _, Z.t i hi, e2.1, e2.2, Z.k i hi 11 (by decide), by show 4 ≤ sizeLine; decide, fun t2 g2 => ?_⟩
      have m2 := same_new (o := .lst [V.bl (decide (i = 8)), V.bl (decide (i = 9)), V.bl (decide (i = 10)), V.bl (decide (i = 11))]) g2
      refine ⟨l1, t2, _, _, rfl, rfl, m2 _ _ upd_same, upd_same, by show 12 ≤ sizeLine; decide, fun l2 f2 => ?_⟩
      have n2 := same_new (o := .lst (([V.bl (decide (i = 0)), V.bl (decide (i = 1)), V.bl (decide (i = 2)), V.bl (decide (i = 3))] ++ [V.bl (decide (i = 4)), V.bl (decide (i = 5)), V.bl (decide (i = 6)), V.bl (decide (i = 7))]) ++ [V.bl (decide (i = 8)), V.bl (decide (i = 9)), V.bl (decide (i = 10)), V.bl (decide (i = 11))])) f2
      have s3 := s2.trans (m2.trans n2)
      obtain ⟨dd3, e3⟩ := er i hi _ s3
      refine ⟨.ref l2, rfl, .ref (as i), rfl, as i, c i, _, .ref (c 12), .ref (c 12), _, rfl, .own _, Z.t i hi, e3.1, e3.2, Z.k i hi 12 (by decide), .ref (as i), rfl, as i, c i, _, .ref (c 13), .ref (c 13), _, rfl, .own _, Z.t i hi, e3.1, e3.2, Z.k i hi 13 (by decide), .ref (as i), rfl, as i, c i, _, .ref (c 14), .ref (c 14), _, rfl, .own _, Z.t i hi, e3.1, e3.2, Z.k i hi 14 (by decide), .ref (as i), rfl, as i, c i, _, .ref (c 15), .ref (c 15), _, rfl, .own _, Z.t i hi, e3.1, e3.2, Z.k i hi 15 (by decide), by show 4 ≤ sizeLine; decide, fun t3 g3 => ?_⟩
      have m3 := same_new (o := .lst [V.bl (decide (i = 12)), V.bl (decide (i = 13)), V.bl (decide (i = 14)), V.bl (decide (i = 15))]) g3
      refine ⟨l2, t3, _, _, rfl, rfl, m3 _ _ upd_same, upd_same, by show 16 ≤ sizeLine; decide, fun l3 f3 => ?_⟩
      have n3 := same_new (o := .lst ((([V.bl (decide (i = 0)), V.bl (decide (i = 1)), V.bl (decide (i = 2)), V.bl (decide (i = 3))] ++ [V.bl (decide (i = 4)), V.bl (decide (i = 5)), V.bl (decide (i = 6)), V.bl (decide (i = 7))]) ++ [V.bl (decide (i = 8)), V.bl (decide (i = 9)), V.bl (decide (i = 10)), V.bl (decide (i = 11))]) ++ [V.bl (decide (i = 12)), V.bl (decide (i = 13)), V.bl (decide (i = 14)), V.bl (decide (i = 15))])) f3
      have s4 := s3.trans (m3.trans n3)
      obtain ⟨dd4, e4⟩ := er i hi _ s4
      refine ⟨.ref l3, rfl, .ref (as i), rfl, as i, c i, _, .ref (c 16), .ref (c 16), _, rfl, .own _, Z.t i hi, e4.1, e4.2, Z.k i hi 16 (by decide), .ref (as i), rfl, as i, c i, _, .ref (c 17), .ref (c 17), _, rfl, .own _, Z.t i hi, e4.1, e4.2, Z.k i hi 17 (by decide), .ref (as i), rfl, as i, c i, _, .ref (c 18), .ref (c 18), _, rfl, .own _, Z.t i hi, e4.1, e4.2, Z.k i hi 18 (by decide), .ref (as i), rfl, as i, c i, _, .ref (c 19), .ref (c 19), _, rfl, .own _, Z.t i hi, e4.1, e4.2, Z.k i hi 19 (by decide), by show 4 ≤ sizeLine; decide, fun t4 g4 => ?_⟩
      have m4 := same_new (o := .lst [V.bl (decide (i = 16)), V.bl (decide (i = 17)), V.bl (decide (i = 18)), V.bl (decide (i = 19))]) g4
      refine ⟨l3, t4, _, _, rfl, rfl, m4 _ _ upd_same, upd_same, by show 20 ≤ sizeLine; decide, fun l4 f4 => ?_⟩
      have n4 := same_new (o := .lst (((([V.bl (decide (i = 0)), V.bl (decide (i = 1)), V.bl (decide (i = 2)), V.bl (decide (i = 3))] ++ [V.bl (decide (i = 4)), V.bl (decide (i = 5)), V.bl (decide (i = 6)), V.bl (decide (i = 7))]) ++ [V.bl (decide (i = 8)), V.bl (decide (i = 9)), V.bl (decide (i = 10)), V.bl (decide (i = 11))]) ++ [V.bl (decide (i = 12)), V.bl (decide (i = 13)), V.bl (decide (i = 14)), V.bl (decide (i = 15))]) ++ [V.bl (decide (i = 16)), V.bl (decide (i = 17)), V.bl (decide (i = 18)), V.bl (decide (i = 19))])) f4
      have s5 := s4.trans (m4.trans n4)
      obtain ⟨dd5, e5⟩ := er i hi _ s5
      dsimp only [gName]
      refine apart_go (od := dd5) hi (by rw [kinds_eq]; exact upd_same) (Z.t i hi) (Z.o i hi) (Z.v i hi) (fun H' s => ⟨s _ _ e5.1, fun dd z => let ⟨fs, y⟩ := e5.2 dd z; ⟨fs, XD.mono s y⟩⟩) fun H' s => ⟨_, _, _, _, rfl, s5.trans s⟩
    · rintro σ H' ⟨x1, x2, x3, x4, rfl, sH⟩
      exact q _ sH
end
end K0
end

section
set_option Elab.async false
set_option linter.all false
set_option maxRecDepth 100000
set_option maxHeartbeats 4000000
/-! an error is raised -/
namespace K0
open PySem L2 KZ
abbrev sRaised : Stmt := top 170
theorem scRaised : FnScope ["call", "caught", "error"] ["call"] (defScope sRaised) := ⟨rfl, rfl, rfl, by decide +kernel, rfl, by decide +kernel, by decide +kernel⟩
/-- what is wished of a call: an error of the package is let out -/
def ErrOut (K : PySem.W.Frag) (cO : Addr) (Q : Hp → Prop) : XK := fun cls d H' => ∃ C dd fs, cls = .ref C ∧ d = some dd ∧ H' dd = some (.xd fs) ∧ ExcT K C ∧ PySem.W.exmOne K (.ref C) (.ref cO) = some true ∧ PySem.W.kitOne K (.ref C) (.type "ValueError") = some true ∧ Q H'
def TTr (K : PySem.W.Frag) (cO : Addr) : (XK → Hp → VK → Prop) → Hp → VK → Prop := fun tl H Q => ∀ Q' : VK, tl (ErrOut K cO fun H' => ∀ H2, Same H' H2 → Q (.bl true) H2) H Q'
theorem raised_gives {X : Cx} {cO g : Addr} {cdg : Value} {q : Str} (gO : X.mg "OpenError" = some (.ref cO)) (T : B1 X.mg) (gV : X.mg "ValueError" = none) :
    LamX.GivesTo X ["call", "caught", "error"] "_law_is_raised" (defScope sRaised) g cdg (defBody sRaised) "call" q (TTr X.K cO) := by
  intro f c' s H Q tl act hc h
  let Z := (cxOf C8.CX0 X.prog X.w X.K X.mg X.base ["call", "caught", "error"] "_law_is_raised" (defScope sRaised) g cdg X.A X.stack s H C8.E0).nox
  refine ⟨_, pss_cons (X := Z) (ps_set (i := 1) scRaised.nd rfl (Or.inl rfl) pe_non)
    (pss_cons (ps_try_keep (X := Z) (c := .ref cO) (i := 2) (j := 1)
      (tb := fun W D σ H => ∃ Ech : XK, (∀ cls d σ' H', Ech cls d H' → σ'.length = 3 → W cls d σ' H') ∧ σ[0]? = some (some (.ref f)) ∧ H c' = some (LamX.CodeO c' q) ∧ tl Ech H fun _ H' => D.nx σ H')
      rfl rfl rfl scRaised.nd rfl rfl rfl rfl ⟨rfl, rfl, .inl gO⟩ LamX.takes0 rfl rfl rfl (fun W pn xe tk _ => ?_))
    (pss_one (ps_ret (pe_callB call_isE (by rfl) T.isi (by decide +kernel) (pa_cons (pv 1) (pa_cons (pe_bltn (v := .ty "ValueError") (by rfl) gV (by decide +kernel) rfl) pa_nil)))))), ?_⟩
  · refine ⟨fun pins s' σ H' D I h' => ?_⟩
    obtain ⟨Ech, hW, h1, h2, h3⟩ := h'
    have tk2 : Takes (Z.tr pn xe) (fun cls d σ H => σ.length = 3 → W cls d σ H) := fun u s' ⟨a, B, sI, pins, σ, H, cls, d, e, I, nb, up, sky, na, os, ag, w⟩ => tk u s' ⟨a, B, sI, pins, σ, H, cls, d, e, I, nb, up, sky, na, os, ag, w I.len⟩
    refine PSs.run (pss_one (ps_expr (act (fun cls d σ H => σ.length = 3 → W cls d σ H) pn xe Ech ?_ ?_ tk2 hW))) pins s' σ H' D I ⟨h1, h2, h3⟩
  · refine ⟨ErrOut X.K cO fun H' => ∀ H2, Same H' H2 → Q (.bl true) H2, ?_, rfl, hc, ?_⟩
    · rintro cls d σ' H' ⟨C, dd, fs, rfl, rfl, hd, T, ex, ki, qq⟩ hl
      refine ⟨C, rfl, true, ex, fun _ a ha => ?_, fun z => nomatch z⟩
      have nda : dd ≠ a := fun z => by rw [z, ha] at hd; cases hd
      obtain ⟨y0, y1, y2, rfl⟩ : ∃ y0 y1 y2, σ' = [y0, y1, y2] := by
        match σ', hl with
        | [y0, y1, y2], _ => exact ⟨_, _, _, rfl⟩
      exact ⟨.ref a, rfl, a, C, some dd, .ty "ValueError", .type "ValueError", true, rfl, .ty _, T, upd_same, fun _ z => by cases z; exact ⟨fs, .inr (by rw [upd_ne nda]; exact hd)⟩, ki, qq _ (same_new ha)⟩
    · exact h _
end K0
end

section
set_option Elab.async false
set_option linter.all false
set_option maxRecDepth 100000
set_option maxHeartbeats 4000000
/-! a ring of what is no host -/
namespace K0
open PySem L2 KZ
abbrev sHost : Stmt := top 59
abbrev sCheckHosts : Stmt := top 66
abbrev sRingInit : Stmt := mem 65 0
def spNoHost : Sp := fun vs H Q _ => ∃ i, vs = [.int i] ∧ Q (.bl false) H
/-- a tuple of one whole number: refused -/
def spRefuse (K : PySem.W.Frag) (cB : Addr) : Sp := fun vs H _ E => ∃ t i, vs = [.ref t] ∧ SqT K H t [.int i] ∧ ∀ d fs H', Same H H' → H' d = some (.xd fs) → E (.ref cB) (some d) H'
section
variable {P : Program} {w : World} {K : PySem.W.Frag} {mg : Str → Option Value} {base : Heap} {fI fW fP fN fH cB : Addr} {dI dW dP dN dH : FuncData}
theorem scHost : FnScope ["value"] ["value"] (defScope sHost) := ⟨rfl, rfl, rfl, by decide +kernel, rfl, by decide +kernel, by decide +kernel⟩
theorem ok_host {f : Addr} {fd : FuncData} (F : Fun K "is_host" "is_host" sHost f fd) (T : B1 mg) (C : C0 mg fI fW) (gN : mg "is_name" = some (.ref fN)) (gP : mg "is_place" = some (.ref fP))
    (FI : Fun K "is_integer" "is_integer" sIsInt fI dI) (bI : Binds K dI ["value"] []) (FW : Fun K "is_within" "is_within" sIsWithin fW dW) (bW : Binds K dW ["value", "least", "most"] []) (FN : Fun K "is_name" "is_name" sIsName fN dN) (bN : Binds K dN ["value"] [])
    (FP : Fun K "is_place" "is_place" sIsPlace fP dP) (bP : Binds K dP ["value"] []) : FnOk P w K mg base CX0 4 f fd ["value"] spNoHost := by
  have GN : FnOk P w K mg base CX0 1 fN dN ["value"] (spName K) := ok_is_name FN T.toB0 C
  have GP : FnOk P w K mg base CX0 3 fP dP ["value"] (spPlace K) := ok_is_place FP T.toB0 C FI bI FW bW
  refine F.ok scHost (fun vs H Q E h => ?_) (fun cdv A outer s H vs Q E hr h => ?_)
  · obtain ⟨i, rfl, _⟩ := h
    rfl
  · obtain ⟨i, rfl, q⟩ := h
    have hr1 : Room 1 _ := hr.mono (by decide)
    refine ⟨_, (pss_one (ps_ret (pe_and (pe_callB (call_isD (c := "tuple")) (by rfl) T.isi (by decide +kernel) (pa_cons (pv 0) (pa_cons (pe_bltn (v := .ty "tuple") (by rfl) T.tuple (by decide +kernel) rfl) pa_nil))) (pe_and (pe_cmpR op_eq (pe_callB call_len (by rfl) T.len PySem.boot_len (pa_cons (pv 0) pa_nil)) pe_int (nomark _)) (pe_and (pe_call GP hr (by rfl) gP FP.kp bP .nil pass0 (pa_cons (pe_ix ix_list (pv 0) pe_int (fun _ _ => rfl)) pa_nil)) (pe_one (pe_call GN hr1 (by rfl) gN FN.kp bN .nil pass0 (pa_cons (pe_ix ix_list (pv 0) pe_int (fun _ _ => rfl)) pa_nil)))))))), ?_⟩
    exact ⟨_, rfl, .int i, .int i, rfl, .int i, _, rfl, iteF q⟩
theorem scCheckHosts : FnScope ["hosts", "at"] ["hosts"] (defScope sCheckHosts) := ⟨rfl, rfl, rfl, by decide +kernel, rfl, by decide +kernel, by decide +kernel⟩
theorem ok_check_hosts {f : Addr} {fd : FuncData} (F : Fun K "check_hosts" "check_hosts" sCheckHosts f fd) (T : B1 mg) (gH : mg "is_host" = some (.ref fH)) (GH : FnOk P w K mg base CX0 4 fH dH ["value"] spNoHost) (kH : PySem.W.keepIn K (.ref fH) = true) (bH : Binds K dH ["value"] [])
    (M : Mk1 P w K mg base "BadRing" cB "part" "part") : FnOk P w K mg base (L2.CX P w) 7 f fd ["hosts"] (spRefuse K cB) := by
  obtain ⟨fR, dR, ER, FR, bR, _⟩ := M.has
  refine F.okX scCheckHosts (fun vs H Q E h => ?_) (fun cdv A outer s H vs Q E hr h => ?_)
  · obtain ⟨t, i, rfl, _⟩ := h
    rfl
  · obtain ⟨t, i, rfl, ht, q⟩ := h
    have hr4 : Room 4 _ := hr.mono (by decide)
    refine ⟨_, pss_cons (ps_for (passes_of rfl) rfl (pi_range1 (by rfl) T.range (pa_cons (pe_callB call_len (by rfl) T.len PySem.boot_len (pa_cons (pv 0) pa_nil)) pa_nil)) (pg_name (i := 1) scCheckHosts.nd rfl (Or.inl rfl))
      (pss_one (ps_if (pt_not (pt_val (pe_call GH hr4 (by rfl) gH kH bH .nil pass0 (pa_cons (pe_ix ix_tup (pv 0) (pv 1) (fun _ _ => rfl)) pa_nil))))
        (pss_one (ps_raise rfl (takes_of rfl rfl rfl rfl) (pmk_oex ER.ox ER.ini ER.ti FR hr bR .nil pass0 (by rfl) ER.gl (pa_cons (pv 1) pa_nil))))
        pss_nil))) (pss_cons ps_never (pss_one ps_never)), ?_⟩
    refine ⟨.ref t, rfl, .ref t, 1, rfl, .inr ⟨_, ht, rfl⟩, 1, rfl, by decide, by decide, for_range (n := 1) (fun i σ H' => i = 0 ∧ σ = [some (.ref t), none] ∧ H' = H) ⟨rfl, rfl, rfl⟩ ?_ ?_⟩
    · rintro j σ H1 hj ⟨rfl, rfl, rfl⟩
      refine ⟨.ref t, rfl, .int 0, rfl, t, _, 0, .int i, rfl, rfl, ht, rfl, i, rfl, false, rfl, iteT ?_⟩
      refine ⟨.int 0, rfl, (show 1 ≤ 1000 by decide), fun a ha => ?_⟩
      refine ⟨a, .int 0, .int 0, fun _ => none, rfl, trivial, (fun _ _ z => nomatch z), (fun _ _ _ z => nomatch z), rfl, .int 0, upd_same, fun v' G' dx H' s1 nf' bs ga gd hdx ne s' kp ea ed dv' => ⟨rfl, dx, _, ea, ed, by rw [upd_ne ne] at hdx; exact hdx, q dx _ _ (fun b o e => by
        have hb : b ≠ a := ne_of_none e ha
        rw [upd_ne ne] at hdx
        rw [upd_ne (ne_of_none e hdx), del_ne hb]
        exact kp _ _ hb (by rw [upd_ne hb]; exact e)) upd_same⟩⟩
    · rintro σ H1 ⟨z, _⟩
      cases z
theorem scRing : FnScope ["self", "hosts"] (([("self" : Str)] : List Str) ++ [("hosts" : Str)]) (defScope sRingInit) := ⟨rfl, rfl, rfl, by decide +kernel, rfl, by decide +kernel, by decide +kernel⟩
theorem ok_ring {f fC : Addr} {fd dC : FuncData} {q : Str} (F : Fun K "__init__" q sRingInit f fd) (gC : mg "check_hosts" = some (.ref fC)) (GC : FnOk P w K mg base (L2.CX P w) 7 fC dC ["hosts"] (spRefuse K cB)) (kC : PySem.W.keepIn K (.ref fC) = true) (bC : Binds K dC ["hosts"] []) :
    FnR P w K mg base (L2.CX P w) 8 f (fun vs H _ E => ∃ x i, vs = [.ref x, .int i] ∧ ∀ d fs H', Same H H' → H' d = some (.xd fs) → E (.ref cB) (some d) H') := by
  obtain ⟨oc, od, kV, doc, pm, an, cdv, ct, osl, rfl, lk, hcd⟩ := F.ex
  have R := StX.fn_star (P := P) (w := w) (mg := mg) (base := base) (CX := L2.CX P w) (k := 7) (N := ["self", "hosts"]) (ps := ["self"]) (pv := "hosts") (sp := fun vs H _ E => ∃ x t i, vs = [.ref x, .ref t] ∧ SqT K H t [.int i] ∧ ∀ d fs H', Same H H' → H' d = some (.xd fs) → E (.ref cB) (some d) H') lk hcd scRing StX.cxUp
    (StX.bind_star1 (p1 := "self") (pv := "hosts") (B := fun l => bindArgs (PySem.W.fnOf "__init__" q (defArgs sRingInit) (defBody sRingInit) (defScope sRingInit) .none kV doc pm an cdv ct) ⟨l, []⟩) (fun a => rfl) (fun a r rs => rfl)) fun A outer s H vs Q E hr h => ?_
  · refine FnR.imp R fun vs H Q E h => ?_
    obtain ⟨x, i, rfl, q⟩ := h
    exact ⟨[.ref x], [.int i], rfl, rfl, (show 1 ≤ sizeLine by decide), fun p hp => ⟨x, p, i, rfl, .inl (.inl upd_same), fun d fs H' s => q d fs H' ((same_new hp).trans s)⟩⟩
  · obtain ⟨x, t, i, rfl, ht, q⟩ := h
    refine ⟨_, pss_cons (ps_expr (pe_call GC hr (by rfl) gC kC bC .nil (passes_call (takes_of rfl rfl rfl rfl) fun _ _ _ _ z => z) (pa_cons (pv 1) pa_nil))) pss_never, ?_⟩
    exact ⟨.ref t, rfl, t, i, rfl, ht, q⟩
end
end K0
end

section
set_option Elab.async false
set_option linter.all false
set_option maxRecDepth 100000
set_option maxHeartbeats 4000000
/-! a player of no store, lots of no numbers -/
namespace K0
open PySem L2 KZ
abbrev sPlInit : Stmt := mem 155 0
abbrev sLoInit : Stmt := mem 75 0
abbrev sNeedRK : Stmt := top 77
abbrev sCheckLots : Stmt := top 78
/-- an error of the class c is let out, all else is kept -/
def Out (cB : Addr) (H : Hp) (E : XK) : Prop := ∀ d fs H', Same H H' → H' d = some (.xd fs) → E (.ref cB) (some d) H'
theorem Out.at {cB : Addr} {H H' : Hp} {E : XK} (q : Out cB H E) (s : Same H H') : Out cB H' E := fun d fs H2 s2 => q d fs H2 (s.trans s2)
def spPl (cB : Addr) : Sp := fun vs H _ E => ∃ x, vs = [.ref x, .non] ∧ Out cB H E
def spRK (cB : Addr) : Sp := fun vs H _ E => vs = [.int 0, .int 1] ∧ Out cB H E
def spCL (cB : Addr) : Sp := fun vs H _ E => vs = [.int 0, .int 1, .non, .non] ∧ Out cB H E
def spLo (cB : Addr) : Sp := fun vs H _ E => ∃ x, vs = [.ref x, .int 0, .int 1, .non, .non] ∧ Out cB H E
section
variable {P : Program} {w : World} {K : PySem.W.Frag} {mg : Str → Option Value} {base : Heap} {fI fW cB cS : Addr} {dI dW : FuncData}
theorem scPl : FnScope ["self", "store"] ["self", "store"] (defScope sPlInit) := ⟨rfl, rfl, rfl, by decide +kernel, rfl, by decide +kernel, by decide +kernel⟩
theorem ok_player {f : Addr} {fd : FuncData} {q : Str} (F : Fun K "__init__" q sPlInit f fd) (T : B0 mg) (gS : mg "Store" = some (.ref cS)) (kS : PySem.W.kitOne K (.type "NoneType") (.ref cS) = some false)
    (M : Mk1 P w K mg base "BadPlayer" cB "part" "part") : FnOk P w K mg base (L2.CX P w) 7 f fd ["self", "store"] (spPl cB) := by
  obtain ⟨fR, dR, ER, FR, bR, _⟩ := M.has
  refine F.okX scPl (fun vs H Q E h => ?_) (fun cdv A outer s H vs Q E hr h => ?_)
  · obtain ⟨x, rfl, _⟩ := h
    rfl
  · obtain ⟨x, rfl, q⟩ := h
    refine ⟨_, pss_cons (ps_if (pt_not (pt_val (pe_callB call_isi (by rfl) T.isi (by decide +kernel) (pa_cons (pv 1) (pa_cons (pe_glob (v := .ref cS) (by rfl) gS rfl) pa_nil)))))
      (pss_one (ps_raise rfl (takes_of rfl rfl rfl rfl) (pmk_oex ER.ox ER.ini ER.ti FR hr bR .nil pass0 (by rfl) ER.gl (pa_cons pe_str pa_nil))))
      pss_nil) pss_never, ?_⟩
    refine ⟨.non, rfl, .non, .ref cS, _, _, false, rfl, .own _, .base .non, kS, false, rfl, iteT ?_⟩
    refine ⟨(show 1 ≤ 1000 by decide), fun a ha => ?_⟩
    refine ⟨a, .str _, .str _, fun _ => none, rfl, trivial, (fun _ _ z => nomatch z), (fun _ _ _ z => nomatch z), rfl, .str _, upd_same, fun v' G' dx H' s1 nf' bs ga gd hdx ne s' kp ea ed dv' => ⟨rfl, dx, _, ea, ed, by rw [upd_ne ne] at hdx; exact hdx, q dx _ _ (fun b o e => by
        have hb : b ≠ a := ne_of_none e ha
        rw [upd_ne ne] at hdx
        rw [upd_ne (ne_of_none e hdx), del_ne hb]
        exact kp _ _ hb (by rw [upd_ne hb]; exact e)) upd_same⟩⟩
theorem scRK : FnScope ["read", "keep"] ["read", "keep"] (defScope sNeedRK) := ⟨rfl, rfl, rfl, by decide +kernel, rfl, by decide +kernel, by decide +kernel⟩
theorem ok_rk {f : Addr} {fd : FuncData} (F : Fun K "need_read_and_keep" "need_read_and_keep" sNeedRK f fd) (T : B0 mg) (C : C0 mg fI fW) (hm : ∃ t, mg "MOST_LOT" = some (.int 5 t)) (FI : Fun K "is_integer" "is_integer" sIsInt fI dI) (bI : Binds K dI ["value"] [])
    (FW : Fun K "is_within" "is_within" sIsWithin fW dW) (bW : Binds K dW ["value", "least", "most"] []) (M : Mk1 P w K mg base "BadLots" cB "part" "part") : FnOk P w K mg base (L2.CX P w) 7 f fd ["read", "keep"] (spRK cB) := by
  have GW : FnOk P w K mg base CX0 2 fW dW ["value", "least", "most"] (spWithin K) := ok_is_within FW T C FI bI
  obtain ⟨t, hm⟩ := hm
  obtain ⟨fR, dR, ER, FR, bR, _⟩ := M.has
  refine F.okX scRK (fun vs H Q E h => ?_) (fun cdv A outer s H vs Q E hr h => ?_)
  · obtain ⟨rfl, _⟩ := h
    rfl
  · obtain ⟨rfl, q⟩ := h
    have hr2 : Room 2 _ := hr.mono (by decide)
    refine ⟨_, pss_cons (ps_if (pt_not (pt_val (pe_call GW hr2 (by rfl) C.gW FW.kp bW .nil pass0 (pa_cons (pv 0) (pa_cons pe_int (pa_cons (pe_glob (v := .int 5) (by rfl) hm ⟨_, rfl⟩) pa_nil))))))
      (pss_one (ps_raise rfl (takes_of rfl rfl rfl rfl) (pmk_oex ER.ox ER.ini ER.ti FR hr bR .nil pass0 (by rfl) ER.gl (pa_cons pe_str pa_nil))))
      pss_nil) pss_never, ?_⟩
    refine ⟨.int 0, rfl, .int 0, .int 0, 1, 5, rfl, .int 0, false, rfl, iteT ?_⟩
    refine ⟨(show 1 ≤ 1000 by decide), fun a ha => ?_⟩
    refine ⟨a, .str _, .str _, fun _ => none, rfl, trivial, (fun _ _ z => nomatch z), (fun _ _ _ z => nomatch z), rfl, .str _, upd_same, fun v' G' dx H' s1 nf' bs ga gd hdx ne s' kp ea ed dv' => ⟨rfl, dx, _, ea, ed, by rw [upd_ne ne] at hdx; exact hdx, q dx _ _ (fun b o e => by
        have hb : b ≠ a := ne_of_none e ha
        rw [upd_ne ne] at hdx
        rw [upd_ne (ne_of_none e hdx), del_ne hb]
        exact kp _ _ hb (by rw [upd_ne hb]; exact e)) upd_same⟩⟩
theorem scCL : FnScope ["read", "keep", "sweep", "spare"] ["read", "keep", "sweep", "spare"] (defScope sCheckLots) := ⟨rfl, rfl, rfl, by decide +kernel, rfl, by decide +kernel, by decide +kernel⟩
theorem ok_cl {f fR : Addr} {fd dR : FuncData} (F : Fun K "check_lots" "check_lots" sCheckLots f fd) (gR : mg "need_read_and_keep" = some (.ref fR)) (GR : FnOk P w K mg base (L2.CX P w) 7 fR dR ["read", "keep"] (spRK cB)) (kR : PySem.W.keepIn K (.ref fR) = true) (bR : Binds K dR ["read", "keep"] []) :
    FnOk P w K mg base (L2.CX P w) 8 f fd ["read", "keep", "sweep", "spare"] (spCL cB) := by
  refine F.okX scCL (fun vs H Q E h => ?_) (fun cdv A outer s H vs Q E hr h => ?_)
  · obtain ⟨rfl, _⟩ := h
    rfl
  · obtain ⟨rfl, q⟩ := h
    refine ⟨_, pss_cons (ps_expr (pe_call GR hr (by rfl) gR kR bR .nil (passes_call (takes_of rfl rfl rfl rfl) fun _ _ _ _ z => z) (pa_cons (pv 0) (pa_cons (pv 1) pa_nil)))) pss_never, ?_⟩
    exact ⟨.int 0, rfl, .int 1, rfl, rfl, q⟩
theorem scLo : FnScope ["self", "read", "keep", "sweep", "spare"] ["self", "read", "keep", "sweep", "spare"] (defScope sLoInit) := ⟨rfl, rfl, rfl, by decide +kernel, rfl, by decide +kernel, by decide +kernel⟩
theorem ok_lo {f fC : Addr} {fd dC : FuncData} {q : Str} (F : FunD K "__init__" q (defArgs sLoInit) (defBody sLoInit) (defScope sLoInit) [.non, .non] [] f fd) (gC : mg "check_lots" = some (.ref fC)) (GC : FnOk P w K mg base (L2.CX P w) 8 fC dC ["read", "keep", "sweep", "spare"] (spCL cB)) (kC : PySem.W.keepIn K (.ref fC) = true) (bC : Binds K dC ["read", "keep", "sweep", "spare"] []) :
    FnOk P w K mg base (L2.CX P w) 9 f fd ["self", "read", "keep", "sweep", "spare"] (spLo cB) := by
  refine F.ok scLo (fun vs H Q E h => ?_) (fun cdv A outer s H vs Q E hr h => ?_)
  · obtain ⟨x, rfl, _⟩ := h
    rfl
  · obtain ⟨x, rfl, q⟩ := h
    refine ⟨_, pss_cons (ps_expr (pe_call GC hr (by rfl) gC kC bC .nil (passes_call (takes_of rfl rfl rfl rfl) fun _ _ _ _ z => z) (pa_cons (pv 1) (pa_cons (pv 2) (pa_cons (pv 3) (pa_cons (pv 4) pa_nil)))))) pss_never, ?_⟩
    exact ⟨.int 0, rfl, .int 1, rfl, .non, rfl, .non, rfl, rfl, q⟩
theorem lo_binds {f : Addr} {fd : FuncData} {q : Str} (F : FunD K "__init__" q (defArgs sLoInit) (defBody sLoInit) (defScope sLoInit) [.non, .non] [] f fd) : ∃ ds, Vals [V.non, V.non] ds ∧ Binds K fd ["self", "read", "keep", "sweep", "spare"] ds :=
  F.binds1 3 0 (by decide) rfl fun T kV doc pm an cdv ct us its h1 h2 => match us, its, h1, h2 with
    | [_, _, _], [_, _], _, _ => ⟨_, rfl, rfl⟩
/-- lambda: Player(None) -/
theorem pl_body {X : Cx} {cP fI : Addr} {A : Around} {outer : List Env} {s : Shared} {H : Hp} {E : XK} {scope : Scope} {f c' : Addr} {p pos pp : Pos} {j : Nat} {dP : FuncData} (M : Mk X.K cP fI) (F : FnOk X.prog X.w X.K X.mg X.base (L2.CX X.prog X.w) 7 fI dP ["self", "store"] (spPl cB)) (hb : Binds X.K dP ["self", "store"] [])
    (g : X.mg "Player" = some (.ref cP)) (hg : Gl (LamX.lamCx X A outer s H E scope f c') "Player") (hr : Room 8 (LamX.lamCx X A outer s H E scope f c').A) : PE (LamX.lamCx X A outer s H E scope f c') (.Call (.Name "Player" p) [.Constant .none j pp] [] pos) (fun _ H _ => Out cB H E) :=
  pe_conv (pe_make (X := LamX.lamCx X A outer s H E scope f c') M F hr hg g hb .nil (passes_call (takes_of rfl rfl rfl rfl) fun _ _ _ _ z => z) (pa_cons pe_non pa_nil)) fun σ H Q h x dx hx hdx ne =>
    ⟨x, rfl, Out.at h ((same_new hdx).trans (same_new (by rw [upd_ne (Ne.symm ne)]; exact hx)))⟩
/-- lambda: Lots(0, 1) -/
theorem lo_body {X : Cx} {cL fI : Addr} {A : Around} {outer : List Env} {s : Shared} {H : Hp} {E : XK} {scope : Scope} {f c' : Addr} {p pos pp pq : Pos} {j l : Nat} {dL : FuncData} {ds : List Value} (M : Mk X.K cL fI) (F : FnOk X.prog X.w X.K X.mg X.base (L2.CX X.prog X.w) 9 fI dL ["self", "read", "keep", "sweep", "spare"] (spLo cB)) (hd : Vals [V.non, V.non] ds) (hb : Binds X.K dL ["self", "read", "keep", "sweep", "spare"] ds)
    (g : X.mg "Lots" = some (.ref cL)) (hg : Gl (LamX.lamCx X A outer s H E scope f c') "Lots") (hr : Room 10 (LamX.lamCx X A outer s H E scope f c').A) : PE (LamX.lamCx X A outer s H E scope f c') (.Call (.Name "Lots" p) [.Constant (.int 0) j pp, .Constant (.int 1) l pq] [] pos) (fun _ H _ => Out cB H E) :=
  pe_conv (pe_make (X := LamX.lamCx X A outer s H E scope f c') M F hr hg g hb hd (passes_call (takes_of rfl rfl rfl rfl) fun _ _ _ _ z => z) (pa_cons pe_int (pa_cons pe_int pa_nil))) fun σ H Q h x dx hx hdx ne =>
    ⟨x, rfl, Out.at h ((same_new hdx).trans (same_new (by rw [upd_ne (Ne.symm ne)]; exact hx)))⟩
end
end K0
end

section
set_option Elab.async false
set_option linter.all false
set_option maxRecDepth 100000
set_option maxHeartbeats 4000000
/-! keywords to parameters -/
namespace K0
open PySem PySem.Spec PyProof.Rows L2 KZ
theorem vals_take1 {vs : List V} {us : List Value} (h : Vals vs us) : Vals (vs.take 1) (us.take 1) := by
  cases h with
  | nil => exact .nil
  | cons a b => exact .cons a .nil
theorem vals_rev2 {vs : List V} {us : List Value} (h : Vals vs us) : Vals (vs.take 2).reverse (us.take 2).reverse := by
  cases h with
  | nil => exact .nil
  | cons a h =>
    cases h with
    | nil => exact .cons a .nil
    | cons b h => exact .cons b (.cons a .nil)
theorem vals_rev3 {vs : List V} {us : List Value} (h : Vals vs us) : Vals (vs.take 3).reverse (us.take 3).reverse := by
  cases h with
  | nil => exact .nil
  | cons a h =>
    cases h with
    | nil => exact .cons a .nil
    | cons b h =>
      cases h with
      | nil => exact .cons b (.cons a .nil)
      | cons c h => exact .cons c (.cons b (.cons a .nil))
section
variable {K : PySem.W.Frag} {x qual p q r : Str} {st : Stmt} {f : Addr} {fd : FuncData}
abbrev FN (x qual : Str) (st : Stmt) (kV doc pm : Value) (an : Option Addr) (cdv ct : Value) : FuncData := PySem.W.fnOf x qual (defArgs st) (defBody st) (defScope st) .none kV doc pm an cdv ct
theorem kb_one (F : Fun K x qual st f fd) (h0 : ∀ (kV doc pm : Value) (an : Option Addr) (cdv ct v : Value), bindArgs (FN x qual st kV doc pm an cdv ct) ⟨[], [(p, v)]⟩ = pure [(p, v)])
    (h1 : ∀ (kV doc pm : Value) (an : Option Addr) (cdv ct v : Value), bindArgs (FN x qual st kV doc pm an cdv ct) ⟨[v], []⟩ = pure [(p, v)]) : KBinds K fd [p] [p] (fun us ws => us ++ ws.take 1) fun vs zs => vs ++ zs.take 1 := by
  obtain ⟨oc, od, kV, doc, pm, an, cdv, ct, osl, rfl, _⟩ := F.ex
  refine ⟨fun s us ws _ hl => ?_, fun a b => a.append (vals_take1 b)⟩
  match us, ws, hl with
  | [], v :: _, _ => exact .of_eq (h0 kV doc pm an cdv ct v)
  | [v], [], _ => exact .of_eq (h1 kV doc pm an cdv ct v)
theorem kb_self (F : Fun K x qual st f fd) (h0 : ∀ (kV doc pm : Value) (an : Option Addr) (cdv ct s v : Value), bindArgs (FN x qual st kV doc pm an cdv ct) ⟨[s], [(q, v)]⟩ = pure [(p, s), (q, v)])
    (h1 : ∀ (kV doc pm : Value) (an : Option Addr) (cdv ct s v : Value), bindArgs (FN x qual st kV doc pm an cdv ct) ⟨[s, v], []⟩ = pure [(p, s), (q, v)]) : KBinds K fd [p, q] [q] (fun us ws => us ++ ws.take 1) fun vs zs => vs ++ zs.take 1 := by
  obtain ⟨oc, od, kV, doc, pm, an, cdv, ct, osl, rfl, _⟩ := F.ex
  refine ⟨fun s us ws _ hl => ?_, fun a b => a.append (vals_take1 b)⟩
  match us, ws, hl with
  | [a], v :: _, _ => exact .of_eq (h0 kV doc pm an cdv ct a v)
  | [a, v], [], _ => exact .of_eq (h1 kV doc pm an cdv ct a v)
  | [], ws, hl => exact absurd hl (by simp only [List.length_append, List.length_take, List.length_reverse, List.length_cons, List.length_nil]; omega)
  | [a], [], hl => exact absurd hl (by simp only [List.length_append, List.length_take, List.length_reverse, List.length_cons, List.length_nil]; omega)
  | [a, v], _ :: _, hl => exact absurd hl (by simp only [List.length_append, List.length_take, List.length_reverse, List.length_cons, List.length_nil]; omega)
  | _ :: _ :: _ :: _, ws, hl => exact absurd hl (by simp only [List.length_append, List.length_take, List.length_reverse, List.length_cons, List.length_nil]; omega)
theorem kb_self2 (F : Fun K x qual st f fd) (h0 : ∀ (kV doc pm : Value) (an : Option Addr) (cdv ct s v u : Value), bindArgs (FN x qual st kV doc pm an cdv ct) ⟨[s], [(r, u), (q, v)]⟩ = pure [(p, s), (q, v), (r, u)])
    (h1 : ∀ (kV doc pm : Value) (an : Option Addr) (cdv ct s v u : Value), bindArgs (FN x qual st kV doc pm an cdv ct) ⟨[s, v], [(r, u)]⟩ = pure [(p, s), (q, v), (r, u)])
    (h2 : ∀ (kV doc pm : Value) (an : Option Addr) (cdv ct s v u : Value), bindArgs (FN x qual st kV doc pm an cdv ct) ⟨[s, v, u], []⟩ = pure [(p, s), (q, v), (r, u)]) : KBinds K fd [p, q, r] [r, q] (fun us ws => us ++ (ws.take 2).reverse) fun vs zs => vs ++ (zs.take 2).reverse := by
  obtain ⟨oc, od, kV, doc, pm, an, cdv, ct, osl, rfl, _⟩ := F.ex
  refine ⟨fun s us ws _ hl => ?_, fun a b => a.append (vals_rev2 b)⟩
  match us, ws, hl with
  | [a], u :: v :: _, _ => exact .of_eq (h0 kV doc pm an cdv ct a v u)
  | [a, v], [u], _ => exact .of_eq (h1 kV doc pm an cdv ct a v u)
  | [a, v, u], [], _ => exact .of_eq (h2 kV doc pm an cdv ct a v u)
  | [], ws, hl => exact absurd hl (by simp only [List.length_append, List.length_take, List.length_reverse, List.length_cons, List.length_nil]; omega)
  | [a], [], hl => exact absurd hl (by simp only [List.length_append, List.length_take, List.length_reverse, List.length_cons, List.length_nil]; omega)
  | [a], [_], hl => exact absurd hl (by simp only [List.length_append, List.length_take, List.length_reverse, List.length_cons, List.length_nil]; omega)
  | [a, v], [], hl => exact absurd hl (by simp only [List.length_append, List.length_take, List.length_reverse, List.length_cons, List.length_nil]; omega)
  | [a, v], _ :: _ :: _, hl => exact absurd hl (by simp only [List.length_append, List.length_take, List.length_reverse, List.length_cons, List.length_nil]; omega)
  | [a, v, u], _ :: _, hl => exact absurd hl (by simp only [List.length_append, List.length_take, List.length_reverse, List.length_cons, List.length_nil]; omega)
  | _ :: _ :: _ :: _ :: _, ws, hl => exact absurd hl (by simp only [List.length_append, List.length_take, List.length_reverse, List.length_cons, List.length_nil]; omega)
theorem kb_three (F : Fun K x qual st f fd) (h0 : ∀ (kV doc pm : Value) (an : Option Addr) (cdv ct s v u : Value), bindArgs (FN x qual st kV doc pm an cdv ct) ⟨[], [(r, u), (q, v), (p, s)]⟩ = pure [(p, s), (q, v), (r, u)])
    (h1 : ∀ (kV doc pm : Value) (an : Option Addr) (cdv ct s v u : Value), bindArgs (FN x qual st kV doc pm an cdv ct) ⟨[s], [(r, u), (q, v)]⟩ = pure [(p, s), (q, v), (r, u)])
    (h2 : ∀ (kV doc pm : Value) (an : Option Addr) (cdv ct s v u : Value), bindArgs (FN x qual st kV doc pm an cdv ct) ⟨[s, v], [(r, u)]⟩ = pure [(p, s), (q, v), (r, u)])
    (h3 : ∀ (kV doc pm : Value) (an : Option Addr) (cdv ct s v u : Value), bindArgs (FN x qual st kV doc pm an cdv ct) ⟨[s, v, u], []⟩ = pure [(p, s), (q, v), (r, u)]) : KBinds K fd [p, q, r] [r, q, p] (fun us ws => us ++ (ws.take 3).reverse) fun vs zs => vs ++ (zs.take 3).reverse := by
  obtain ⟨oc, od, kV, doc, pm, an, cdv, ct, osl, rfl, _⟩ := F.ex
  refine ⟨fun s us ws _ hl => ?_, fun a b => a.append (vals_rev3 b)⟩
  match us, ws, hl with
  | [], u :: v :: a :: _, _ => exact .of_eq (h0 kV doc pm an cdv ct a v u)
  | [a], [u, v], _ => exact .of_eq (h1 kV doc pm an cdv ct a v u)
  | [a, v], [u], _ => exact .of_eq (h2 kV doc pm an cdv ct a v u)
  | [a, v, u], [], _ => exact .of_eq (h3 kV doc pm an cdv ct a v u)
  | [], [], hl => exact absurd hl (by simp only [List.length_append, List.length_take, List.length_reverse, List.length_cons, List.length_nil]; omega)
  | [], [_], hl => exact absurd hl (by simp only [List.length_append, List.length_take, List.length_reverse, List.length_cons, List.length_nil]; omega)
  | [], [_, _], hl => exact absurd hl (by simp only [List.length_append, List.length_take, List.length_reverse, List.length_cons, List.length_nil]; omega)
  | [a], [], hl => exact absurd hl (by simp only [List.length_append, List.length_take, List.length_reverse, List.length_cons, List.length_nil]; omega)
  | [a], [_], hl => exact absurd hl (by simp only [List.length_append, List.length_take, List.length_reverse, List.length_cons, List.length_nil]; omega)
  | [a], _ :: _ :: _ :: _, hl => exact absurd hl (by simp only [List.length_append, List.length_take, List.length_reverse, List.length_cons, List.length_nil]; omega)
  | [a, v], [], hl => exact absurd hl (by simp only [List.length_append, List.length_take, List.length_reverse, List.length_cons, List.length_nil]; omega)
  | [a, v], _ :: _ :: _, hl => exact absurd hl (by simp only [List.length_append, List.length_take, List.length_reverse, List.length_cons, List.length_nil]; omega)
  | [a, v, u], _ :: _, hl => exact absurd hl (by simp only [List.length_append, List.length_take, List.length_reverse, List.length_cons, List.length_nil]; omega)
  | _ :: _ :: _ :: _ :: _, ws, hl => exact absurd hl (by simp only [List.length_append, List.length_take, List.length_reverse, List.length_cons, List.length_nil]; omega)
end
end K0
end

section
set_option Elab.async false
set_option linter.all false
set_option maxRecDepth 100000
set_option maxHeartbeats 4000000
/-! the errors' parameters, bound once per name -/
namespace K0
open PySem PySem.Spec PyProof.Rows L2 KZ
abbrev args1 (x : Str) (p0 p1 : Pos) : Arguments := ⟨[], [⟨"self", none, p0⟩, ⟨x, none, p1⟩], none, [], [], none, []⟩
abbrev args2 (x y : Str) (p0 p1 p2 : Pos) : Arguments := ⟨[], [⟨"self", none, p0⟩, ⟨x, none, p1⟩, ⟨y, none, p2⟩], none, [], [], none, []⟩
section
variable {nm q : Str} {p0 p1 p2 : Pos} {body : List Stmt} {scope : Scope} {kV doc pm cdv ct s v u : Value} {an : Option Addr}
theorem b1k_value : bindArgs (PySem.W.fnOf nm q (args1 "value" p0 p1) body scope .none kV doc pm an cdv ct) ⟨[s], [("value", v)]⟩ = (pure [(("self" : Str), s), (("value" : Str), v)] : Sem (List (Str × Value))) := rfl
theorem b1p_value : bindArgs (PySem.W.fnOf nm q (args1 "value" p0 p1) body scope .none kV doc pm an cdv ct) ⟨[s, v], []⟩ = (pure [(("self" : Str), s), (("value" : Str), v)] : Sem (List (Str × Value))) := rfl
theorem b1k_part : bindArgs (PySem.W.fnOf nm q (args1 "part" p0 p1) body scope .none kV doc pm an cdv ct) ⟨[s], [("part", v)]⟩ = (pure [(("self" : Str), s), (("part" : Str), v)] : Sem (List (Str × Value))) := rfl
theorem b1p_part : bindArgs (PySem.W.fnOf nm q (args1 "part" p0 p1) body scope .none kV doc pm an cdv ct) ⟨[s, v], []⟩ = (pure [(("self" : Str), s), (("part" : Str), v)] : Sem (List (Str × Value))) := rfl
theorem b1k_word : bindArgs (PySem.W.fnOf nm q (args1 "word" p0 p1) body scope .none kV doc pm an cdv ct) ⟨[s], [("word", v)]⟩ = (pure [(("self" : Str), s), (("word" : Str), v)] : Sem (List (Str × Value))) := rfl
theorem b1p_word : bindArgs (PySem.W.fnOf nm q (args1 "word" p0 p1) body scope .none kV doc pm an cdv ct) ⟨[s, v], []⟩ = (pure [(("self" : Str), s), (("word" : Str), v)] : Sem (List (Str × Value))) := rfl
theorem b1k_place : bindArgs (PySem.W.fnOf nm q (args1 "place" p0 p1) body scope .none kV doc pm an cdv ct) ⟨[s], [("place", v)]⟩ = (pure [(("self" : Str), s), (("place" : Str), v)] : Sem (List (Str × Value))) := rfl
theorem b1p_place : bindArgs (PySem.W.fnOf nm q (args1 "place" p0 p1) body scope .none kV doc pm an cdv ct) ⟨[s, v], []⟩ = (pure [(("self" : Str), s), (("place" : Str), v)] : Sem (List (Str × Value))) := rfl
theorem b1k_number : bindArgs (PySem.W.fnOf nm q (args1 "number" p0 p1) body scope .none kV doc pm an cdv ct) ⟨[s], [("number", v)]⟩ = (pure [(("self" : Str), s), (("number" : Str), v)] : Sem (List (Str × Value))) := rfl
theorem b1p_number : bindArgs (PySem.W.fnOf nm q (args1 "number" p0 p1) body scope .none kV doc pm an cdv ct) ⟨[s, v], []⟩ = (pure [(("self" : Str), s), (("number" : Str), v)] : Sem (List (Str × Value))) := rfl
theorem b1k_name : bindArgs (PySem.W.fnOf nm q (args1 "name" p0 p1) body scope .none kV doc pm an cdv ct) ⟨[s], [("name", v)]⟩ = (pure [(("self" : Str), s), (("name" : Str), v)] : Sem (List (Str × Value))) := rfl
theorem b1p_name : bindArgs (PySem.W.fnOf nm q (args1 "name" p0 p1) body scope .none kV doc pm an cdv ct) ⟨[s, v], []⟩ = (pure [(("self" : Str), s), (("name" : Str), v)] : Sem (List (Str × Value))) := rfl
theorem b2k_line : bindArgs (PySem.W.fnOf nm q (args2 "line" "word" p0 p1 p2) body scope .none kV doc pm an cdv ct) ⟨[s], [("word", u), ("line", v)]⟩ = (pure [(("self" : Str), s), (("line" : Str), v), (("word" : Str), u)] : Sem (List (Str × Value))) := rfl
theorem b2m_line : bindArgs (PySem.W.fnOf nm q (args2 "line" "word" p0 p1 p2) body scope .none kV doc pm an cdv ct) ⟨[s, v], [("word", u)]⟩ = (pure [(("self" : Str), s), (("line" : Str), v), (("word" : Str), u)] : Sem (List (Str × Value))) := rfl
theorem b2p_line : bindArgs (PySem.W.fnOf nm q (args2 "line" "word" p0 p1 p2) body scope .none kV doc pm an cdv ct) ⟨[s, v, u], []⟩ = (pure [(("self" : Str), s), (("line" : Str), v), (("word" : Str), u)] : Sem (List (Str × Value))) := rfl
theorem b2k_what : bindArgs (PySem.W.fnOf nm q (args2 "what" "most" p0 p1 p2) body scope .none kV doc pm an cdv ct) ⟨[s], [("most", u), ("what", v)]⟩ = (pure [(("self" : Str), s), (("what" : Str), v), (("most" : Str), u)] : Sem (List (Str × Value))) := rfl
theorem b2m_what : bindArgs (PySem.W.fnOf nm q (args2 "what" "most" p0 p1 p2) body scope .none kV doc pm an cdv ct) ⟨[s, v], [("most", u)]⟩ = (pure [(("self" : Str), s), (("what" : Str), v), (("most" : Str), u)] : Sem (List (Str × Value))) := rfl
theorem b2p_what : bindArgs (PySem.W.fnOf nm q (args2 "what" "most" p0 p1 p2) body scope .none kV doc pm an cdv ct) ⟨[s, v, u], []⟩ = (pure [(("self" : Str), s), (("what" : Str), v), (("most" : Str), u)] : Sem (List (Str × Value))) := rfl
end
end K0
end

section
set_option Elab.async false
set_option linter.all false
set_option maxRecDepth 100000
set_option maxHeartbeats 4000000
/-! the facts, out of the head -/
namespace K0
open PySem PySem.Spec PyProof.Rows L2 KZ
theorem errI_ok {K : PySem.W.Frag} {mg : Str → Option Value} {nm : Str} {C : Addr} {fs : List Str} (h : errI K C fs = true) (g : mg nm = some (.ref C)) : ErrC K mg nm C (He.ma K C "__init__") fs := by
  obtain ⟨h0, h⟩ := He.ba h
  obtain ⟨h1, h⟩ := He.ba h
  obtain ⟨h2, h⟩ := He.ba h
  obtain ⟨h3, h⟩ := He.ba h
  obtain ⟨h4, h⟩ := He.ba h
  obtain ⟨h5, h⟩ := He.ba h
  obtain ⟨h6, h7⟩ := He.ba h
  have T := errB_ok h0
  exact ⟨⟨oexB_ok h1, He.eqO_ok h2, T.be, of_decide_eq_true h3, h4⟩, T, He.eqO_ok h5, of_decide_eq_true h6, fun f hf => He.eqO_ok (List.all_eq_true.mp h7 f hf), g⟩
theorem errI_t {K : PySem.W.Frag} {C : Addr} {fs : List Str} (h : errI K C fs = true) : ExcT K C := errB_ok (He.ba h).1
section
variable {P : Program} {w : World} {K : PySem.W.Frag} {mg : Str → Option Value} {base : Heap} {fC : Addr} {dC fd : FuncData}
theorem mk_BadName (h : errI K (He.ga K "BadName") ["value"] = true) (g : mg "BadName" = some (.ref (He.ga K "BadName"))) (F : Fun K "__init__" "BadName.__init__" (mem 12 0) (He.ma K (He.ga K "BadName") "__init__") fd) (T : B0 mg) (gC : mg "copied" = some (.ref fC)) (FC : Fun K "copied" "copied" sCopied fC dC) (bC : Binds K dC ["value"] []) :
    Mk1 P w K mg base "BadName" (He.ga K "BadName") "value" "value" := by
  have E := errI_ok h g
  refine ⟨_, fd, E, ok_init1 (st := mem 12 0) rfl ⟨rfl, rfl, rfl, by decide +kernel, rfl, by decide +kernel, by decide +kernel⟩ rfl rfl rfl (by decide) (by decide) F E.ox (E.no _ List.mem_cons_self) T gC FC bC, ?_, ?_⟩
  · exact F.binds (ps := ["self", "value"]) fun _ _ _ _ _ _ us hl => match us, hl with | [_, _], _ => b1p_value
  · exact kb_self F (fun _ _ _ _ _ _ _ _ => b1k_value) (fun _ _ _ _ _ _ _ _ => b1p_value)
theorem mk_BadNumber (h : errI K (He.ga K "BadNumber") ["value"] = true) (g : mg "BadNumber" = some (.ref (He.ga K "BadNumber"))) (F : Fun K "__init__" "BadNumber.__init__" (mem 13 0) (He.ma K (He.ga K "BadNumber") "__init__") fd) (T : B0 mg) (gC : mg "copied" = some (.ref fC)) (FC : Fun K "copied" "copied" sCopied fC dC) (bC : Binds K dC ["value"] []) :
    Mk1 P w K mg base "BadNumber" (He.ga K "BadNumber") "value" "value" := by
  have E := errI_ok h g
  refine ⟨_, fd, E, ok_init1 (st := mem 13 0) rfl ⟨rfl, rfl, rfl, by decide +kernel, rfl, by decide +kernel, by decide +kernel⟩ rfl rfl rfl (by decide) (by decide) F E.ox (E.no _ List.mem_cons_self) T gC FC bC, ?_, ?_⟩
  · exact F.binds (ps := ["self", "value"]) fun _ _ _ _ _ _ us hl => match us, hl with | [_, _], _ => b1p_value
  · exact kb_self F (fun _ _ _ _ _ _ _ _ => b1k_value) (fun _ _ _ _ _ _ _ _ => b1p_value)
theorem mk_BadBook (h : errI K (He.ga K "BadBook") ["part"] = true) (g : mg "BadBook" = some (.ref (He.ga K "BadBook"))) (F : Fun K "__init__" "BadBook.__init__" (mem 14 0) (He.ma K (He.ga K "BadBook") "__init__") fd) (T : B0 mg) (gC : mg "copied" = some (.ref fC)) (FC : Fun K "copied" "copied" sCopied fC dC) (bC : Binds K dC ["value"] []) :
    Mk1 P w K mg base "BadBook" (He.ga K "BadBook") "part" "part" := by
  have E := errI_ok h g
  refine ⟨_, fd, E, ok_init1 (st := mem 14 0) rfl ⟨rfl, rfl, rfl, by decide +kernel, rfl, by decide +kernel, by decide +kernel⟩ rfl rfl rfl (by decide) (by decide) F E.ox (E.no _ List.mem_cons_self) T gC FC bC, ?_, ?_⟩
  · exact F.binds (ps := ["self", "part"]) fun _ _ _ _ _ _ us hl => match us, hl with | [_, _], _ => b1p_part
  · exact kb_self F (fun _ _ _ _ _ _ _ _ => b1k_part) (fun _ _ _ _ _ _ _ _ => b1p_part)
theorem mk_BadQuota (h : errI K (He.ga K "BadQuota") ["part"] = true) (g : mg "BadQuota" = some (.ref (He.ga K "BadQuota"))) (F : Fun K "__init__" "BadQuota.__init__" (mem 15 0) (He.ma K (He.ga K "BadQuota") "__init__") fd) (T : B0 mg) (gC : mg "copied" = some (.ref fC)) (FC : Fun K "copied" "copied" sCopied fC dC) (bC : Binds K dC ["value"] []) :
    Mk1 P w K mg base "BadQuota" (He.ga K "BadQuota") "part" "part" := by
  have E := errI_ok h g
  refine ⟨_, fd, E, ok_init1 (st := mem 15 0) rfl ⟨rfl, rfl, rfl, by decide +kernel, rfl, by decide +kernel, by decide +kernel⟩ rfl rfl rfl (by decide) (by decide) F E.ox (E.no _ List.mem_cons_self) T gC FC bC, ?_, ?_⟩
  · exact F.binds (ps := ["self", "part"]) fun _ _ _ _ _ _ us hl => match us, hl with | [_, _], _ => b1p_part
  · exact kb_self F (fun _ _ _ _ _ _ _ _ => b1k_part) (fun _ _ _ _ _ _ _ _ => b1p_part)
theorem mk_BadRing (h : errI K (He.ga K "BadRing") ["part"] = true) (g : mg "BadRing" = some (.ref (He.ga K "BadRing"))) (F : Fun K "__init__" "BadRing.__init__" (mem 16 0) (He.ma K (He.ga K "BadRing") "__init__") fd) (T : B0 mg) (gC : mg "copied" = some (.ref fC)) (FC : Fun K "copied" "copied" sCopied fC dC) (bC : Binds K dC ["value"] []) :
    Mk1 P w K mg base "BadRing" (He.ga K "BadRing") "part" "part" := by
  have E := errI_ok h g
  refine ⟨_, fd, E, ok_init1 (st := mem 16 0) rfl ⟨rfl, rfl, rfl, by decide +kernel, rfl, by decide +kernel, by decide +kernel⟩ rfl rfl rfl (by decide) (by decide) F E.ox (E.no _ List.mem_cons_self) T gC FC bC, ?_, ?_⟩
  · exact F.binds (ps := ["self", "part"]) fun _ _ _ _ _ _ us hl => match us, hl with | [_, _], _ => b1p_part
  · exact kb_self F (fun _ _ _ _ _ _ _ _ => b1k_part) (fun _ _ _ _ _ _ _ _ => b1p_part)
theorem mk_BadChange (h : errI K (He.ga K "BadChange") ["value"] = true) (g : mg "BadChange" = some (.ref (He.ga K "BadChange"))) (F : Fun K "__init__" "BadChange.__init__" (mem 17 0) (He.ma K (He.ga K "BadChange") "__init__") fd) (T : B0 mg) (gC : mg "copied" = some (.ref fC)) (FC : Fun K "copied" "copied" sCopied fC dC) (bC : Binds K dC ["value"] []) :
    Mk1 P w K mg base "BadChange" (He.ga K "BadChange") "value" "value" := by
  have E := errI_ok h g
  refine ⟨_, fd, E, ok_init1 (st := mem 17 0) rfl ⟨rfl, rfl, rfl, by decide +kernel, rfl, by decide +kernel, by decide +kernel⟩ rfl rfl rfl (by decide) (by decide) F E.ox (E.no _ List.mem_cons_self) T gC FC bC, ?_, ?_⟩
  · exact F.binds (ps := ["self", "value"]) fun _ _ _ _ _ _ us hl => match us, hl with | [_, _], _ => b1p_value
  · exact kb_self F (fun _ _ _ _ _ _ _ _ => b1k_value) (fun _ _ _ _ _ _ _ _ => b1p_value)
theorem mk_BadLots (h : errI K (He.ga K "BadLots") ["part"] = true) (g : mg "BadLots" = some (.ref (He.ga K "BadLots"))) (F : Fun K "__init__" "BadLots.__init__" (mem 18 0) (He.ma K (He.ga K "BadLots") "__init__") fd) (T : B0 mg) (gC : mg "copied" = some (.ref fC)) (FC : Fun K "copied" "copied" sCopied fC dC) (bC : Binds K dC ["value"] []) :
    Mk1 P w K mg base "BadLots" (He.ga K "BadLots") "part" "part" := by
  have E := errI_ok h g
  refine ⟨_, fd, E, ok_init1 (st := mem 18 0) rfl ⟨rfl, rfl, rfl, by decide +kernel, rfl, by decide +kernel, by decide +kernel⟩ rfl rfl rfl (by decide) (by decide) F E.ox (E.no _ List.mem_cons_self) T gC FC bC, ?_, ?_⟩
  · exact F.binds (ps := ["self", "part"]) fun _ _ _ _ _ _ us hl => match us, hl with | [_, _], _ => b1p_part
  · exact kb_self F (fun _ _ _ _ _ _ _ _ => b1k_part) (fun _ _ _ _ _ _ _ _ => b1p_part)
theorem mk_BadCare (h : errI K (He.ga K "BadCare") ["value"] = true) (g : mg "BadCare" = some (.ref (He.ga K "BadCare"))) (F : Fun K "__init__" "BadCare.__init__" (mem 19 0) (He.ma K (He.ga K "BadCare") "__init__") fd) (T : B0 mg) (gC : mg "copied" = some (.ref fC)) (FC : Fun K "copied" "copied" sCopied fC dC) (bC : Binds K dC ["value"] []) :
    Mk1 P w K mg base "BadCare" (He.ga K "BadCare") "value" "value" := by
  have E := errI_ok h g
  refine ⟨_, fd, E, ok_init1 (st := mem 19 0) rfl ⟨rfl, rfl, rfl, by decide +kernel, rfl, by decide +kernel, by decide +kernel⟩ rfl rfl rfl (by decide) (by decide) F E.ox (E.no _ List.mem_cons_self) T gC FC bC, ?_, ?_⟩
  · exact F.binds (ps := ["self", "value"]) fun _ _ _ _ _ _ us hl => match us, hl with | [_, _], _ => b1p_value
  · exact kb_self F (fun _ _ _ _ _ _ _ _ => b1k_value) (fun _ _ _ _ _ _ _ _ => b1p_value)
theorem mk_BadStep (h : errI K (He.ga K "BadStep") ["value"] = true) (g : mg "BadStep" = some (.ref (He.ga K "BadStep"))) (F : Fun K "__init__" "BadStep.__init__" (mem 20 0) (He.ma K (He.ga K "BadStep") "__init__") fd) (T : B0 mg) (gC : mg "copied" = some (.ref fC)) (FC : Fun K "copied" "copied" sCopied fC dC) (bC : Binds K dC ["value"] []) :
    Mk1 P w K mg base "BadStep" (He.ga K "BadStep") "value" "value" := by
  have E := errI_ok h g
  refine ⟨_, fd, E, ok_init1 (st := mem 20 0) rfl ⟨rfl, rfl, rfl, by decide +kernel, rfl, by decide +kernel, by decide +kernel⟩ rfl rfl rfl (by decide) (by decide) F E.ox (E.no _ List.mem_cons_self) T gC FC bC, ?_, ?_⟩
  · exact F.binds (ps := ["self", "value"]) fun _ _ _ _ _ _ us hl => match us, hl with | [_, _], _ => b1p_value
  · exact kb_self F (fun _ _ _ _ _ _ _ _ => b1k_value) (fun _ _ _ _ _ _ _ _ => b1p_value)
theorem mk_BadAsk (h : errI K (He.ga K "BadAsk") ["part"] = true) (g : mg "BadAsk" = some (.ref (He.ga K "BadAsk"))) (F : Fun K "__init__" "BadAsk.__init__" (mem 21 0) (He.ma K (He.ga K "BadAsk") "__init__") fd) (T : B0 mg) (gC : mg "copied" = some (.ref fC)) (FC : Fun K "copied" "copied" sCopied fC dC) (bC : Binds K dC ["value"] []) :
    Mk1 P w K mg base "BadAsk" (He.ga K "BadAsk") "part" "part" := by
  have E := errI_ok h g
  refine ⟨_, fd, E, ok_init1 (st := mem 21 0) rfl ⟨rfl, rfl, rfl, by decide +kernel, rfl, by decide +kernel, by decide +kernel⟩ rfl rfl rfl (by decide) (by decide) F E.ox (E.no _ List.mem_cons_self) T gC FC bC, ?_, ?_⟩
  · exact F.binds (ps := ["self", "part"]) fun _ _ _ _ _ _ us hl => match us, hl with | [_, _], _ => b1p_part
  · exact kb_self F (fun _ _ _ _ _ _ _ _ => b1k_part) (fun _ _ _ _ _ _ _ _ => b1p_part)
theorem mk_BadPlayer (h : errI K (He.ga K "BadPlayer") ["part"] = true) (g : mg "BadPlayer" = some (.ref (He.ga K "BadPlayer"))) (F : Fun K "__init__" "BadPlayer.__init__" (mem 22 0) (He.ma K (He.ga K "BadPlayer") "__init__") fd) (T : B0 mg) (gC : mg "copied" = some (.ref fC)) (FC : Fun K "copied" "copied" sCopied fC dC) (bC : Binds K dC ["value"] []) :
    Mk1 P w K mg base "BadPlayer" (He.ga K "BadPlayer") "part" "part" := by
  have E := errI_ok h g
  refine ⟨_, fd, E, ok_init1 (st := mem 22 0) rfl ⟨rfl, rfl, rfl, by decide +kernel, rfl, by decide +kernel, by decide +kernel⟩ rfl rfl rfl (by decide) (by decide) F E.ox (E.no _ List.mem_cons_self) T gC FC bC, ?_, ?_⟩
  · exact F.binds (ps := ["self", "part"]) fun _ _ _ _ _ _ us hl => match us, hl with | [_, _], _ => b1p_part
  · exact kb_self F (fun _ _ _ _ _ _ _ _ => b1k_part) (fun _ _ _ _ _ _ _ _ => b1p_part)
theorem mk_BadText (h : errI K (He.ga K "BadText") ["line", "word"] = true) (g : mg "BadText" = some (.ref (He.ga K "BadText"))) (F : Fun K "__init__" "BadText.__init__" (mem 23 0) (He.ma K (He.ga K "BadText") "__init__") fd) (T : B0 mg) (gC : mg "copied" = some (.ref fC)) (FC : Fun K "copied" "copied" sCopied fC dC) (bC : Binds K dC ["value"] []) :
    Mk2 P w K mg base "BadText" (He.ga K "BadText") "line" "word" "line" "word" := by
  have E := errI_ok h g
  refine ⟨_, fd, E, ok_init2 (st := mem 23 0) rfl ⟨rfl, rfl, rfl, by decide +kernel, rfl, by decide +kernel, by decide +kernel⟩ rfl rfl rfl rfl (by decide) (by decide) (by decide) (by decide) F E.ox (E.no _ List.mem_cons_self) (E.no _ (List.mem_cons_of_mem _ List.mem_cons_self)) T gC FC bC, ?_, ?_⟩
  · exact F.binds (ps := ["self", "line", "word"]) fun _ _ _ _ _ _ us hl => match us, hl with | [_, _, _], _ => b2p_line
  · exact kb_self2 F (fun _ _ _ _ _ _ _ _ _ => b2k_line) (fun _ _ _ _ _ _ _ _ _ => b2m_line) (fun _ _ _ _ _ _ _ _ _ => b2p_line)
theorem mk_BadCommand (h : errI K (He.ga K "BadCommand") ["word"] = true) (g : mg "BadCommand" = some (.ref (He.ga K "BadCommand"))) (F : Fun K "__init__" "BadCommand.__init__" (mem 24 0) (He.ma K (He.ga K "BadCommand") "__init__") fd) (T : B0 mg) (gC : mg "copied" = some (.ref fC)) (FC : Fun K "copied" "copied" sCopied fC dC) (bC : Binds K dC ["value"] []) :
    Mk1 P w K mg base "BadCommand" (He.ga K "BadCommand") "word" "word" := by
  have E := errI_ok h g
  refine ⟨_, fd, E, ok_init1 (st := mem 24 0) rfl ⟨rfl, rfl, rfl, by decide +kernel, rfl, by decide +kernel, by decide +kernel⟩ rfl rfl rfl (by decide) (by decide) F E.ox (E.no _ List.mem_cons_self) T gC FC bC, ?_, ?_⟩
  · exact F.binds (ps := ["self", "word"]) fun _ _ _ _ _ _ us hl => match us, hl with | [_, _], _ => b1p_word
  · exact kb_self F (fun _ _ _ _ _ _ _ _ => b1k_word) (fun _ _ _ _ _ _ _ _ => b1p_word)
theorem mk_NoHost (h : errI K (He.ga K "NoHost") ["place"] = true) (g : mg "NoHost" = some (.ref (He.ga K "NoHost"))) (F : Fun K "__init__" "NoHost.__init__" (mem 25 0) (He.ma K (He.ga K "NoHost") "__init__") fd) (T : B0 mg) (gC : mg "copied" = some (.ref fC)) (FC : Fun K "copied" "copied" sCopied fC dC) (bC : Binds K dC ["value"] []) :
    Mk1 P w K mg base "NoHost" (He.ga K "NoHost") "place" "place" := by
  have E := errI_ok h g
  refine ⟨_, fd, E, ok_init1 (st := mem 25 0) rfl ⟨rfl, rfl, rfl, by decide +kernel, rfl, by decide +kernel, by decide +kernel⟩ rfl rfl rfl (by decide) (by decide) F E.ox (E.no _ List.mem_cons_self) T gC FC bC, ?_, ?_⟩
  · exact F.binds (ps := ["self", "place"]) fun _ _ _ _ _ _ us hl => match us, hl with | [_, _], _ => b1p_place
  · exact kb_self F (fun _ _ _ _ _ _ _ _ => b1k_place) (fun _ _ _ _ _ _ _ _ => b1p_place)
theorem mk_NoLetter (h : errI K (He.ga K "NoLetter") ["number"] = true) (g : mg "NoLetter" = some (.ref (He.ga K "NoLetter"))) (F : Fun K "__init__" "NoLetter.__init__" (mem 26 0) (He.ma K (He.ga K "NoLetter") "__init__") fd) (T : B0 mg) (gC : mg "copied" = some (.ref fC)) (FC : Fun K "copied" "copied" sCopied fC dC) (bC : Binds K dC ["value"] []) :
    Mk1 P w K mg base "NoLetter" (He.ga K "NoLetter") "number" "number" := by
  have E := errI_ok h g
  refine ⟨_, fd, E, ok_init1 (st := mem 26 0) rfl ⟨rfl, rfl, rfl, by decide +kernel, rfl, by decide +kernel, by decide +kernel⟩ rfl rfl rfl (by decide) (by decide) F E.ox (E.no _ List.mem_cons_self) T gC FC bC, ?_, ?_⟩
  · exact F.binds (ps := ["self", "number"]) fun _ _ _ _ _ _ us hl => match us, hl with | [_, _], _ => b1p_number
  · exact kb_self F (fun _ _ _ _ _ _ _ _ => b1k_number) (fun _ _ _ _ _ _ _ _ => b1p_number)
theorem mk_NoClient (h : errI K (He.ga K "NoClient") ["name"] = true) (g : mg "NoClient" = some (.ref (He.ga K "NoClient"))) (F : Fun K "__init__" "NoClient.__init__" (mem 27 0) (He.ma K (He.ga K "NoClient") "__init__") fd) (T : B0 mg) (gC : mg "copied" = some (.ref fC)) (FC : Fun K "copied" "copied" sCopied fC dC) (bC : Binds K dC ["value"] []) :
    Mk1 P w K mg base "NoClient" (He.ga K "NoClient") "name" "name" := by
  have E := errI_ok h g
  refine ⟨_, fd, E, ok_init1 (st := mem 27 0) rfl ⟨rfl, rfl, rfl, by decide +kernel, rfl, by decide +kernel, by decide +kernel⟩ rfl rfl rfl (by decide) (by decide) F E.ox (E.no _ List.mem_cons_self) T gC FC bC, ?_, ?_⟩
  · exact F.binds (ps := ["self", "name"]) fun _ _ _ _ _ _ us hl => match us, hl with | [_, _], _ => b1p_name
  · exact kb_self F (fun _ _ _ _ _ _ _ _ => b1k_name) (fun _ _ _ _ _ _ _ _ => b1p_name)
theorem mk_NoEpoch (h : errI K (He.ga K "NoEpoch") ["number"] = true) (g : mg "NoEpoch" = some (.ref (He.ga K "NoEpoch"))) (F : Fun K "__init__" "NoEpoch.__init__" (mem 28 0) (He.ma K (He.ga K "NoEpoch") "__init__") fd) (T : B0 mg) (gC : mg "copied" = some (.ref fC)) (FC : Fun K "copied" "copied" sCopied fC dC) (bC : Binds K dC ["value"] []) :
    Mk1 P w K mg base "NoEpoch" (He.ga K "NoEpoch") "number" "number" := by
  have E := errI_ok h g
  refine ⟨_, fd, E, ok_init1 (st := mem 28 0) rfl ⟨rfl, rfl, rfl, by decide +kernel, rfl, by decide +kernel, by decide +kernel⟩ rfl rfl rfl (by decide) (by decide) F E.ox (E.no _ List.mem_cons_self) T gC FC bC, ?_, ?_⟩
  · exact F.binds (ps := ["self", "number"]) fun _ _ _ _ _ _ us hl => match us, hl with | [_, _], _ => b1p_number
  · exact kb_self F (fun _ _ _ _ _ _ _ _ => b1k_number) (fun _ _ _ _ _ _ _ _ => b1p_number)
theorem mk_Clashing (h : errI K (He.ga K "Clashing") ["part"] = true) (g : mg "Clashing" = some (.ref (He.ga K "Clashing"))) (F : Fun K "__init__" "Clashing.__init__" (mem 29 0) (He.ma K (He.ga K "Clashing") "__init__") fd) (T : B0 mg) (gC : mg "copied" = some (.ref fC)) (FC : Fun K "copied" "copied" sCopied fC dC) (bC : Binds K dC ["value"] []) :
    Mk1 P w K mg base "Clashing" (He.ga K "Clashing") "part" "part" := by
  have E := errI_ok h g
  refine ⟨_, fd, E, ok_init1 (st := mem 29 0) rfl ⟨rfl, rfl, rfl, by decide +kernel, rfl, by decide +kernel, by decide +kernel⟩ rfl rfl rfl (by decide) (by decide) F E.ox (E.no _ List.mem_cons_self) T gC FC bC, ?_, ?_⟩
  · exact F.binds (ps := ["self", "part"]) fun _ _ _ _ _ _ us hl => match us, hl with | [_, _], _ => b1p_part
  · exact kb_self F (fun _ _ _ _ _ _ _ _ => b1k_part) (fun _ _ _ _ _ _ _ _ => b1p_part)
theorem mk_TooMany (h : errI K (He.ga K "TooMany") ["what", "most"] = true) (g : mg "TooMany" = some (.ref (He.ga K "TooMany"))) (F : Fun K "__init__" "TooMany.__init__" (mem 31 0) (He.ma K (He.ga K "TooMany") "__init__") fd) (T : B0 mg) (gC : mg "copied" = some (.ref fC)) (FC : Fun K "copied" "copied" sCopied fC dC) (bC : Binds K dC ["value"] []) :
    Mk2 P w K mg base "TooMany" (He.ga K "TooMany") "what" "most" "what" "most" := by
  have E := errI_ok h g
  refine ⟨_, fd, E, ok_init2 (st := mem 31 0) rfl ⟨rfl, rfl, rfl, by decide +kernel, rfl, by decide +kernel, by decide +kernel⟩ rfl rfl rfl rfl (by decide) (by decide) (by decide) (by decide) F E.ox (E.no _ List.mem_cons_self) (E.no _ (List.mem_cons_of_mem _ List.mem_cons_self)) T gC FC bC, ?_, ?_⟩
  · exact F.binds (ps := ["self", "what", "most"]) fun _ _ _ _ _ _ us hl => match us, hl with | [_, _, _], _ => b2p_what
  · exact kb_self2 F (fun _ _ _ _ _ _ _ _ _ => b2k_what) (fun _ _ _ _ _ _ _ _ _ => b2m_what) (fun _ _ _ _ _ _ _ _ _ => b2p_what)
end
theorem zip_all {α : Type} {Pb : α × Nat → Bool} {l : List α} (h : l.zipIdx.all Pb = true) {i : Nat} {a : α} (e : l[i]? = some a) : Pb (a, i) = true :=
  List.all_eq_true.mp h (a, i) (List.mem_zipIdx_iff_getElem?.mpr e)
theorem ens_at : ∀ i, i < 20 → ens[i]? = some (ename i) := by decide +kernel
theorem ki_of {K : PySem.W.Frag} (h : exB K = true) : Ki K (fun i => He.ga K (ename i)) (He.ga K "OpenError") := by
  obtain ⟨h1, h⟩ := He.ba h
  obtain ⟨h2, h⟩ := He.ba h
  obtain ⟨h3, h4⟩ := He.ba h
  have at_ : ∀ i, i < 20 → (ens.map (He.ga K))[i]? = some (He.ga K (ename i)) := fun i hi => by rw [List.getElem?_map, ens_at i hi]; rfl
  have up : ∀ i, i < 20 → (decide (PySem.W.kitOne K (.ref (He.ga K (ename i))) (.ref (He.ga K "OpenError")) = some true) && decide (PySem.W.kitOne K (.ref (He.ga K (ename i))) (.type "ValueError") = some true)) = true := fun i hi => List.all_eq_true.mp h3 _ (List.mem_of_getElem? (at_ i hi))
  refine ⟨?_, fun i hi j hj => ?_, fun i hi => of_decide_eq_true (He.ba (up i hi)).1, fun i hi => of_decide_eq_true (He.ba (up i hi)).2⟩
  · intro i hi
    have e : ∀ (k : Nat) (x : Str × List Str), efs[k]? = some x → errI K (He.ga K x.1) x.2 = true := fun k x hk => List.all_eq_true.mp h1 x (List.mem_of_getElem? hk)
    match i, hi with
    | 0, _ =>
      have z : errI K (He.ga K "BadName") ["value"] = true := e 0 ("BadName", ["value"]) (by rfl)
      show ExcT K (He.ga K "BadName")
      exact errI_t z
    | 1, _ =>
      have z : errI K (He.ga K "BadNumber") ["value"] = true := e 1 ("BadNumber", ["value"]) (by rfl)
      show ExcT K (He.ga K "BadNumber")
      exact errI_t z
    | 2, _ =>
      have z : errI K (He.ga K "BadBook") ["part"] = true := e 2 ("BadBook", ["part"]) (by rfl)
      show ExcT K (He.ga K "BadBook")
      exact errI_t z
    | 3, _ =>
      have z : errI K (He.ga K "BadQuota") ["part"] = true := e 3 ("BadQuota", ["part"]) (by rfl)
      show ExcT K (He.ga K "BadQuota")
      exact errI_t z
    | 4, _ =>
      have z : errI K (He.ga K "BadRing") ["part"] = true := e 4 ("BadRing", ["part"]) (by rfl)
      show ExcT K (He.ga K "BadRing")
      exact errI_t z
    | 5, _ =>
      have z : errI K (He.ga K "BadChange") ["value"] = true := e 5 ("BadChange", ["value"]) (by rfl)
      show ExcT K (He.ga K "BadChange")
      exact errI_t z
    | 6, _ =>
      have z : errI K (He.ga K "BadLots") ["part"] = true := e 6 ("BadLots", ["part"]) (by rfl)
      show ExcT K (He.ga K "BadLots")
      exact errI_t z
    | 7, _ =>
      have z : errI K (He.ga K "BadCare") ["value"] = true := e 7 ("BadCare", ["value"]) (by rfl)
      show ExcT K (He.ga K "BadCare")
      exact errI_t z
    | 8, _ =>
      have z : errI K (He.ga K "BadStep") ["value"] = true := e 8 ("BadStep", ["value"]) (by rfl)
      show ExcT K (He.ga K "BadStep")
      exact errI_t z
    | 9, _ =>
      have z : errI K (He.ga K "BadAsk") ["part"] = true := e 9 ("BadAsk", ["part"]) (by rfl)
      show ExcT K (He.ga K "BadAsk")
      exact errI_t z
    | 10, _ =>
      have z : errI K (He.ga K "BadPlayer") ["part"] = true := e 10 ("BadPlayer", ["part"]) (by rfl)
      show ExcT K (He.ga K "BadPlayer")
      exact errI_t z
    | 11, _ =>
      have z : errI K (He.ga K "BadText") ["line", "word"] = true := e 11 ("BadText", ["line", "word"]) (by rfl)
      show ExcT K (He.ga K "BadText")
      exact errI_t z
    | 12, _ =>
      have z : errI K (He.ga K "BadCommand") ["word"] = true := e 12 ("BadCommand", ["word"]) (by rfl)
      show ExcT K (He.ga K "BadCommand")
      exact errI_t z
    | 13, _ =>
      have z : errI K (He.ga K "NoHost") ["place"] = true := e 13 ("NoHost", ["place"]) (by rfl)
      show ExcT K (He.ga K "NoHost")
      exact errI_t z
    | 14, _ =>
      have z : errI K (He.ga K "NoLetter") ["number"] = true := e 14 ("NoLetter", ["number"]) (by rfl)
      show ExcT K (He.ga K "NoLetter")
      exact errI_t z
    | 15, _ =>
      have z : errI K (He.ga K "NoClient") ["name"] = true := e 15 ("NoClient", ["name"]) (by rfl)
      show ExcT K (He.ga K "NoClient")
      exact errI_t z
    | 16, _ =>
      have z : errI K (He.ga K "NoEpoch") ["number"] = true := e 16 ("NoEpoch", ["number"]) (by rfl)
      show ExcT K (He.ga K "NoEpoch")
      exact errI_t z
    | 17, _ =>
      have z : errI K (He.ga K "Clashing") ["part"] = true := e 17 ("Clashing", ["part"]) (by rfl)
      show ExcT K (He.ga K "Clashing")
      exact errI_t z
    | 18, _ => exact errB_ok h2
    | 19, _ =>
      have z : errI K (He.ga K "TooMany") ["what", "most"] = true := e 18 ("TooMany", ["what", "most"]) (by rfl)
      show ExcT K (He.ga K "TooMany")
      exact errI_t z
    | _ + 20, h => omega
  · exact of_decide_eq_true (zip_all (zip_all h4 (at_ i hi)) (at_ j hj))
end K0
end

section
set_option Elab.async false
set_option linter.all false
set_option maxRecDepth 100000
set_option maxHeartbeats 4000000
/-! the law itself -/
namespace K0
open PySem PySem.Spec PyProof.Rows L2 KZ
abbrev sLaw : Stmt := top 171
/-- as okG, the def's code object known -/
theorem okGc {P : Program} {w : World} {K : PySem.W.Frag} {mg : Str → Option Value} {base : Heap} {x qual : Str} {st : Stmt} {f c : Addr} {fd : FuncData} {N ps : List Str} {k : Nat} {sp : Sp} (F : Fun K x qual st f fd) (hc : fd.code = .ref c) (S : FnScope N ps (defScope st))
    (len : ∀ vs H Q E, sp vs H Q E → vs.length = ps.length)
    (hbody : ∀ (A : Around) (out : List Env) (s : Shared) (H : Hp) (vs : List V) (Q : VK) (E : XK), A.guards = some [] → Room k (A.deeper (envOfC qual (defScope st) s.heap.objs.size f (.ref c))) → sp vs H Q E →
      ∃ t, PSs (cxOf CX0 P w K mg base N qual (defScope st) f (.ref c) A out s H E).nox (defBody st) t ∧ t { nx := fun _ H' => Q .non H', rt := Q } (start N vs) H) : FnG P w K mg base CX0 (k + 1) f fd ps sp := by
  obtain ⟨oc, od, kV, doc, pm, an, cdv, ct, osl, rfl, lk, hcd⟩ := F.ex
  obtain rfl : cdv = .ref c := hc
  refine ⟨len, fun A out s H ar us vs Q E hgd hr e0 hb r hsp => LamX.run_ofS (N := N) lk hcd S hr e0 hb r (len _ _ _ _ hsp) fun hr' => ?_⟩
  obtain ⟨t, ht, q⟩ := hbody A out s H vs Q E hgd hr' hsp
  exact ⟨t, ht.nox, q⟩
/-- an error of the class c is let out, all else is kept -/
def tRs (c : Addr) (E : XK) : TE := fun _ H _ => ∀ d fs H', Same H H' → H' d = some (.xd fs) → E (.ref c) (some d) H'
structure Er (K : PySem.W.Frag) (cO c : Addr) : Prop where
  t : ExcT K c
  e : PySem.W.exmOne K (.ref c) (.ref cO) = some true
  k : PySem.W.kitOne K (.ref c) (.type "ValueError") = some true
theorem pen_ext {H H' : Hp} {p c : Addr} {cells : List Int} {n : Nat} (h : PenAt H p c cells n) (e : LamX.ExtN H H') : PenAt H' p c cells n := by
  obtain ⟨a, g, h1, h2, h3, h4⟩ := h.ex
  exact ⟨⟨a, g, e _ _ h1 (fun _ z => nomatch z), h2, h3, h4⟩, e _ _ h.cs (fun _ z => nomatch z), h.few, h.ne⟩
theorem pen_upd {H : Hp} {p c l : Addr} {o : HO} {cells : List Int} {n : Nat} (h : PenAt H p c cells n) (h1 : p ≠ l) (h2 : c ≠ l) : PenAt (upd H l o) p c cells n := by
  obtain ⟨a, g, e1, e2, e3, e4⟩ := h.ex
  exact ⟨⟨a, g, by rw [upd_ne h1]; exact e1, e2, e3, e4⟩, by rw [upd_ne h2]; exact h.cs, h.few, h.ne⟩
theorem pen_ne {H : Hp} {p c l : Addr} {cells : List Int} {n : Nat} (h : PenAt H p c cells n) (hl : H l = none) : p ≠ l ∧ c ≠ l := by
  obtain ⟨a, g, e1, _⟩ := h.ex
  exact ⟨fun z => (by rw [z, hl] at e1; cases e1), fun z => (by have e := h.cs; rw [z, hl] at e; cases e)⟩
theorem tabs_lst {T : List (Addr × Str)} {H : Hp} {l : Addr} {xs ys : List V} (h : LamX.Tabs T H) (hl : H l = some (.lst xs)) : LamX.Tabs T (upd H l (.lst ys)) := fun p hp => by
  obtain ⟨ps, h1, h2, h3⟩ := h p hp
  refine ⟨ps, by rw [upd_ne (fun z => by rw [z, hl] at h1; cases h1)]; exact h1, h2, fun pos cv hc => ?_⟩
  obtain ⟨c, e1, e2⟩ := h3 pos cv hc
  exact ⟨c, e1, by
    rw [upd_ne (fun z => by
      rw [z, hl] at e2
      have e3 := Option.some.inj e2
      have e4 : HO.lst xs = HO.ext _ := e3
      cases e4)]
    exact e2⟩
def spLaw (K : PySem.W.Frag) (Pt : Addr) : Sp := fun vs H Q _ => ∃ (a : Addr) (ns : List Int), vs = [.ref a] ∧ SqL K H a (ns.map V.int) ∧ ns.length ≤ 63 ∧ H Pt = some (.tbl #[]) ∧ ∀ H', Q (.bl true) H'
/-- lambda: Ring(i) -/
theorem ring_body {X : Cx} {cR cB fI : Addr} {A : Around} {outer : List Env} {s : Shared} {H : Hp} {E : XK} {scope : Scope} {f c' : Addr} {p pos pp : Pos} {i : Int} {j : Nat} (M : Mk X.K cR fI)
    (F : FnR X.prog X.w X.K X.mg X.base (L2.CX X.prog X.w) 8 fI (fun vs H _ E => ∃ x i, vs = [.ref x, .int i] ∧ ∀ d fs H', Same H H' → H' d = some (.xd fs) → E (.ref cB) (some d) H')) (g : X.mg "Ring" = some (.ref cR))
    (hg : Gl (LamX.lamCx X A outer s H E scope f c') "Ring") (hr : Room 9 (LamX.lamCx X A outer s H E scope f c').A) : PE (LamX.lamCx X A outer s H E scope f c') (.Call (.Name "Ring" p) [.Constant (.int i) j pp] [] pos) (tRs cB E) :=
  pe_conv (StX.pe_makeR (X := LamX.lamCx X A outer s H E scope f c') M F hr hg g (passes_call (takes_of rfl rfl rfl rfl) fun _ _ _ _ z => z) (pa_cons pe_int pa_nil)) fun σ H Q h x dx hx hdx ne =>
    ⟨x, i, rfl, fun d fs H' s' hd => h d fs H' ((same_new hdx).trans ((same_new (by rw [upd_ne (Ne.symm ne)]; exact hx)).trans s')) hd⟩
section
variable {P : Program} {w : World} {K : PySem.W.Frag} {mg : Str → Option Value} {base : Heap} {fPn fA fK fC fR cO cV cc Pt : Addr} {dPn dA dK dC : FuncData} {c : Nat → Addr}
theorem scLaw : FnScope ["script", "pen", "some", "heard"] ["script"] (defScope sLaw) := ⟨rfl, rfl, rfl, by decide +kernel, rfl, by decide +kernel, by decide +kernel⟩
theorem ok_law {cPl cRi cLo cP fIp cL fIl : Addr} {f : Addr} {fd dR dPl dLo : FuncData} {dsL : List Value} {cR fI : Addr} (MKp : Mk K cP fIp) (FPl : FnOk P w K mg base (L2.CX P w) 7 fIp dPl ["self", "store"] (spPl cPl)) (bPl : Binds K dPl ["self", "store"] []) (gPl : mg "Player" = some (.ref cP)) (MKl : Mk K cL fIl) (FLo : FnOk P w K mg base (L2.CX P w) 9 fIl dLo ["self", "read", "keep", "sweep", "spare"] (spLo cLo)) (hdL : Vals [V.non, V.non] dsL) (bLo : Binds K dLo ["self", "read", "keep", "sweep", "spare"] dsL) (gLo : mg "Lots" = some (.ref cL)) (MKr : Mk K cR fI) (FRr : FnR P w K mg base (L2.CX P w) 8 fI (fun vs H _ E => ∃ x i, vs = [.ref x, .int i] ∧ ∀ d fs H', Same H H' → H' d = some (.xd fs) → E (.ref cRi) (some d) H')) (gRi : mg "Ring" = some (.ref cR)) (E1 : Er K cO cPl) (E2 : Er K cO cRi) (E3 : Er K cO cLo) (F : Fun K "law" "law" sLaw f fd) (hcode : fd.code = .ref cc) (TB : LamX.TabB base mg cc Pt) (T : B1 mg) (M : Ms P w K mg base c) (Z : Ki K c cO) (gO : mg "OpenError" = some (.ref cO)) (gV : mg "ValueError" = none) (gVd : mg "Verdict" = some (.ref cV))
    (nF : PySem.W.excIn K (c 18) He.veBase "ValueError.__new__" = true) (nG : mg "Nothing" = some (.ref (c 18))) (nK : PySem.W.keepIn K (.ref (c 18)) = true) (kV : PySem.W.kitOne K (.ref (c 0)) (.ref cV) = some false)
    (gPn : mg "_law_pen" = some (.ref fPn)) (FPn : Fun K "_law_pen" "_law_pen" sPen fPn dPn) (bPn : Binds K dPn ["script"] []) (gA : mg "_law_apart" = some (.ref fA)) (FA : Fun K "_law_apart" "_law_apart" sApart fA dA) (bA : Binds K dA ["some"] []) (GA : FnOk P w K mg base CX0 1 fA dA ["some"] (spApart K c))
    (gK : mg "_law_values_kept" = some (.ref fK)) (FK : Fun K "_law_values_kept" "_law_values_kept" sKept fK dK) (bK : Binds K dK ["pen"] []) (GK : FnG P w K mg base CX0 7 fK dK ["pen"] spKept) (gC : mg "_law_checks_right" = some (.ref fC)) (FC : Fun K "_law_checks_right" "_law_checks_right" sChecks fC dC) (bC : Binds K dC ["pen"] [])
    (GC : FnG P w K mg base CX0 5 fC dC ["pen"] spChecks) (gR : mg "_law_is_raised" = some (.ref fR)) (FR : Fun K "_law_is_raised" "_law_is_raised" sRaised fR dR) (bR' : Binds K dR ["call"] []) : FnG P w K mg base CX0 13 f fd ["script"] (spLaw K Pt) := by
  have GPn : FnOk P w K mg base CX0 1 fPn dPn ["script"] (spPen K) := ok_pen FPn T
  obtain ⟨ocR, odR, kVR, docR, pmR, anR, cdvR, ctR, oslR, rfl, lkR, hcR⟩ := FR.ex
  have bR := bR'
  refine okGc F hcode scLaw (fun vs H Q E h => ?_) (fun A outer s H vs Q E hgd hr h => ?_)
  · obtain ⟨a, ns, rfl, _⟩ := h
    rfl
  · obtain ⟨a, ns, rfl, hs, hl, hT, q⟩ := h
    have hr12 : Room 12 _ := hr
    have hr7 : Room 7 _ := hr.mono (by decide)
    have hr6 : Room 6 _ := hr.mono (by decide)
    have hr5 : Room 5 _ := hr.mono (by decide)
    have hr1 : Room 1 _ := hr.mono (by decide)
    let X := (cxOf CX0 P w K mg base ["script", "pen", "some", "heard"] "law" (defScope sLaw) f (.ref cc) A outer s H E).nox
    let qL : Str := X.env.qual ++ "<lambda>"
    refine ⟨_, (pss_cons (ps_set (i := 1) scLaw.nd rfl (Or.inl rfl) (pe_call GPn hr1 (by rfl) gPn FPn.kp bPn .nil pass0 (pa_cons (pv 0) pa_nil)))
(pss_cons (ps_set (i := 2) scLaw.nd rfl (Or.inl rfl) (pe_lst (pa_cons (pe_mk1 M.BadName hr6 (by rfl) (pa_cons pe_int pa_nil)) (pa_cons (pe_mk1 M.BadNumber hr6 (by rfl) (pa_cons pe_int pa_nil)) (pa_cons (pe_mk1 M.BadBook hr6 (by rfl) (pa_cons pe_int pa_nil)) (pa_cons (pe_mk1 M.BadQuota hr6 (by rfl) (pa_cons pe_int pa_nil)) (pa_cons (pe_mk1 M.BadRing hr6 (by rfl) (pa_cons pe_int pa_nil)) (pa_cons (pe_mk1 M.BadChange hr6 (by rfl) (pa_cons pe_int pa_nil)) (pa_cons (pe_mk1 M.BadLots hr6 (by rfl) (pa_cons pe_int pa_nil)) (pa_cons (pe_mk1 M.BadCare hr6 (by rfl) (pa_cons pe_int pa_nil)) (pa_cons (pe_mk1 M.BadStep hr6 (by rfl) (pa_cons pe_int pa_nil)) (pa_cons (pe_mk1 M.BadAsk hr6 (by rfl) (pa_cons pe_int pa_nil)) pa_nil))))))))))))
(pss_cons (ps_set (i := 2) scLaw.nd rfl (Or.inl rfl) (pe_op op_cat (pv 2) (pe_lst (pa_cons (pe_mk1 M.BadPlayer hr6 (by rfl) (pa_cons pe_int pa_nil)) (pa_cons (pe_mk2 (by decide) M.BadText hr6 (by rfl) (pa_cons pe_int (pa_cons pe_int pa_nil))) (pa_cons (pe_mk1 M.BadCommand hr6 (by rfl) (pa_cons pe_int pa_nil)) (pa_cons (pe_mk1 M.NoHost hr6 (by rfl) (pa_cons pe_int pa_nil)) (pa_cons (pe_mk1 M.NoLetter hr6 (by rfl) (pa_cons pe_int pa_nil)) (pa_cons (pe_mk1 M.NoClient hr6 (by rfl) (pa_cons pe_int pa_nil)) (pa_cons (pe_mk1 M.NoEpoch hr6 (by rfl) (pa_cons pe_int pa_nil)) (pa_cons (pe_mk1 M.Clashing hr6 (by rfl) (pa_cons pe_int pa_nil)) pa_nil)))))))))))
(pss_cons (ps_if (PW.pt (pw_or (pt_not (pt_val (pe_call GA hr1 (by rfl) gA FA.kp bA .nil pass0 (pa_cons (pe_op op_cat (pv 2) (pe_lst (pa_cons (pe_oex0 PySem.F.excBase_ValueError nF nG nK (by rfl)) (pa_cons (pe_mk2 (by decide) M.TooMany hr6 (by rfl) (pa_cons pe_int (pa_cons pe_int pa_nil))) pa_nil)))) pa_nil)))) (pw_or1 (pt_val (pe_callB call_isE (by rfl) T.isi (by decide +kernel) (pa_cons (pe_ix ix_list (pv 2) pe_int (fun _ _ => rfl)) (pa_cons (pe_glob (v := .ref cV) (by rfl) gVd rfl) pa_nil)))))))
(pss_one (ps_ret pe_bl))
pss_nil)
(pss_cons (ps_set (i := 3) scLaw.nd rfl (Or.inl rfl) (pe_lst (pa_cons (LamX.pe_lamcall (t := tRs cPl) (T := [(Pt, qL)]) (Ng := ["call", "caught", "error"]) (k := 10) (by rfl) gR FR.kp lkR hcR bR scRaised rfl (Or.inl rfl) (raised_gives gO T gV) TB rfl List.mem_cons_self (fun p hp _ => by rw [List.mem_singleton.mp hp]) hr12 (LamX.lamS_by (sc := defScope sLaw) (by decide +kernel)) rfl (fun _ _ _ _ _ => rfl) (fun A outer s H E f c2 hr => pl_body MKp FPl bPl gPl (by rfl) (hr.mono (by decide)))) pa_nil)))
(pss_cons (ps_expr (pe_bm PySem.F.plainAttrs_list PySem.F.slot_list_append PySem.F.type_list_append mt_append (pv 3) (pa_cons (LamX.pe_lamcall (t := tRs cRi) (T := [(Pt, qL)]) (Ng := ["call", "caught", "error"]) (k := 10) (by rfl) gR FR.kp lkR hcR bR scRaised rfl (Or.inl rfl) (raised_gives gO T gV) TB rfl List.mem_cons_self (fun p hp _ => by rw [List.mem_singleton.mp hp]) hr12 (LamX.lamS_by (sc := defScope sLaw) (by decide +kernel)) rfl (fun _ _ _ _ _ => rfl) (fun A outer s H E f c2 hr => ring_body MKr FRr gRi (by rfl) (hr.mono (by decide)))) pa_nil)))
(pss_cons (ps_expr (pe_bm PySem.F.plainAttrs_list PySem.F.slot_list_append PySem.F.type_list_append mt_append (pv 3) (pa_cons (LamX.pe_lamcall (t := tRs cLo) (T := [(Pt, qL)]) (Ng := ["call", "caught", "error"]) (k := 10) (by rfl) gR FR.kp lkR hcR bR scRaised rfl (Or.inl rfl) (raised_gives gO T gV) TB rfl List.mem_cons_self (fun p hp _ => by rw [List.mem_singleton.mp hp]) hr12 (LamX.lamS_by (sc := defScope sLaw) (by decide +kernel)) rfl (fun _ _ _ _ _ => rfl) (fun A outer s H E f c2 hr => lo_body MKl FLo hdL bLo gLo (by rfl) hr)) pa_nil)))
(pss_one (ps_ret (pe_and (pe_cmpR (op_eqD hr.units) (pv 3) (pe_op op_rep (pe_lst (pa_cons pe_bl pa_nil)) pe_int) (nomark _)) (pe_and (pe_callG GK (by exact hgd) hr7 (by rfl) gK FK.kp bK .nil pass0 (pa_cons (pv 1) pa_nil)) (pe_one (pe_callG GC (by exact hgd) hr5 (by rfl) gC FC.kp bC .nil pass0 (pa_cons (pv 1) pa_nil)))))))))))))), ?_⟩
    -- WALK
    refine ⟨.ref a, rfl, a, ns, rfl, hs, hl, fun p pc cells Hp0 hp hc sP pen => ?_⟩
    refine ⟨_, .int _, fun _ => none, rfl, trivial, (fun _ _ z => nomatch z), (fun _ _ _ z => nomatch z), .int _, fun a0 H0 f0 s0 e0 => ⟨_, .int _, fun _ => none, rfl, trivial, (fun _ _ z => nomatch z), (fun _ _ _ z => nomatch z), .int _, fun a1 H1 f1 s1 e1 => ⟨_, .int _, fun _ => none, rfl, trivial, (fun _ _ z => nomatch z), (fun _ _ _ z => nomatch z), .int _, fun a2 H2 f2 s2 e2 => ⟨_, .int _, fun _ => none, rfl, trivial, (fun _ _ z => nomatch z), (fun _ _ _ z => nomatch z), .int _, fun a3 H3 f3 s3 e3 => ⟨_, .int _, fun _ => none, rfl, trivial, (fun _ _ z => nomatch z), (fun _ _ _ z => nomatch z), .int _, fun a4 H4 f4 s4 e4 => ⟨_, .int _, fun _ => none, rfl, trivial, (fun _ _ z => nomatch z), (fun _ _ _ z => nomatch z), .int _, fun a5 H5 f5 s5 e5 => ⟨_, .int _, fun _ => none, rfl, trivial, (fun _ _ z => nomatch z), (fun _ _ _ z => nomatch z), .int _, fun a6 H6 f6 s6 e6 => ⟨_, .int _, fun _ => none, rfl, trivial, (fun _ _ z => nomatch z), (fun _ _ _ z => nomatch z), .int _, fun a7 H7 f7 s7 e7 => ⟨_, .int _, fun _ => none, rfl, trivial, (fun _ _ z => nomatch z), (fun _ _ _ z => nomatch z), .int _, fun a8 H8 f8 s8 e8 => ⟨_, .int _, fun _ => none, rfl, trivial, (fun _ _ z => nomatch z), (fun _ _ _ z => nomatch z), .int _, fun a9 H9 f9 s9 e9 => ⟨by show 10 ≤ sizeLine; decide, fun l1 fl1 => ?_⟩⟩⟩⟩⟩⟩⟩⟩⟩⟩⟩
    have n1 := same_new (o := .lst [V.ref a0, V.ref a1, V.ref a2, V.ref a3, V.ref a4, V.ref a5, V.ref a6, V.ref a7, V.ref a8, V.ref a9]) fl1
    refine ⟨.ref l1, rfl, _, .int _, fun _ => none, rfl, trivial, (fun _ _ z => nomatch z), (fun _ _ _ z => nomatch z), .int _, fun a10 H10 f10 s10 e10 => ⟨_, _, .int _, .int _, fun _ => none, rfl, trivial, trivial, (fun _ _ z => nomatch z), (fun _ _ _ z => nomatch z), .int _, .int _, fun a11 H11 f11 s11 e11 => ⟨_, .int _, fun _ => none, rfl, trivial, (fun _ _ z => nomatch z), (fun _ _ _ z => nomatch z), .int _, fun a12 H12 f12 s12 e12 => ⟨_, .int _, fun _ => none, rfl, trivial, (fun _ _ z => nomatch z), (fun _ _ _ z => nomatch z), .int _, fun a13 H13 f13 s13 e13 => ⟨_, .int _, fun _ => none, rfl, trivial, (fun _ _ z => nomatch z), (fun _ _ _ z => nomatch z), .int _, fun a14 H14 f14 s14 e14 => ⟨_, .int _, fun _ => none, rfl, trivial, (fun _ _ z => nomatch z), (fun _ _ _ z => nomatch z), .int _, fun a15 H15 f15 s15 e15 => ⟨_, .int _, fun _ => none, rfl, trivial, (fun _ _ z => nomatch z), (fun _ _ _ z => nomatch z), .int _, fun a16 H16 f16 s16 e16 => ⟨_, .int _, fun _ => none, rfl, trivial, (fun _ _ z => nomatch z), (fun _ _ _ z => nomatch z), .int _, fun a17 H17 f17 s17 e17 => ⟨by show 8 ≤ sizeLine; decide, fun l2 fl2 => ?_⟩⟩⟩⟩⟩⟩⟩⟩⟩
    have n2 := same_new (o := .lst [V.ref a10, V.ref a11, V.ref a12, V.ref a13, V.ref a14, V.ref a15, V.ref a16, V.ref a17]) fl2
    have sB := ((((((((s10.trans s11).trans s12).trans s13).trans s14).trans s15).trans s16).trans s17).trans n2)
    refine ⟨l1, l2, _, _, rfl, rfl, sB _ _ upd_same, upd_same, by show 18 ≤ sizeLine; decide, fun l3 fl3 => ?_⟩
    have n3 := same_new (o := .lst ([V.ref a0, V.ref a1, V.ref a2, V.ref a3, V.ref a4, V.ref a5, V.ref a6, V.ref a7, V.ref a8, V.ref a9] ++ [V.ref a10, V.ref a11, V.ref a12, V.ref a13, V.ref a14, V.ref a15, V.ref a16, V.ref a17])) fl3
    have sA := ((((((((((((((((((((s0.trans s1).trans s2).trans s3).trans s4).trans s5).trans s6).trans s7).trans s8).trans s9).trans n1).trans s10).trans s11).trans s12).trans s13).trans s14).trans s15).trans s16).trans s17).trans n2).trans n3)
    have penA := pen.mono sA (Nat.le_refl 0)
    have TA := (sP.trans sA) _ _ hT
    have r0 : IsErr _ a0 (c 0) := e0.is.mono (((((((((((((((((((s1.trans s2).trans s3).trans s4).trans s5).trans s6).trans s7).trans s8).trans s9).trans n1).trans s10).trans s11).trans s12).trans s13).trans s14).trans s15).trans s16).trans s17).trans n2).trans n3)
    have r1 : IsErr _ a1 (c 1) := e1.is.mono ((((((((((((((((((s2.trans s3).trans s4).trans s5).trans s6).trans s7).trans s8).trans s9).trans n1).trans s10).trans s11).trans s12).trans s13).trans s14).trans s15).trans s16).trans s17).trans n2).trans n3)
    have r2 : IsErr _ a2 (c 2) := e2.is.mono (((((((((((((((((s3.trans s4).trans s5).trans s6).trans s7).trans s8).trans s9).trans n1).trans s10).trans s11).trans s12).trans s13).trans s14).trans s15).trans s16).trans s17).trans n2).trans n3)
    have r3 : IsErr _ a3 (c 3) := e3.is.mono ((((((((((((((((s4.trans s5).trans s6).trans s7).trans s8).trans s9).trans n1).trans s10).trans s11).trans s12).trans s13).trans s14).trans s15).trans s16).trans s17).trans n2).trans n3)
    have r4 : IsErr _ a4 (c 4) := e4.is.mono (((((((((((((((s5.trans s6).trans s7).trans s8).trans s9).trans n1).trans s10).trans s11).trans s12).trans s13).trans s14).trans s15).trans s16).trans s17).trans n2).trans n3)
    have r5 : IsErr _ a5 (c 5) := e5.is.mono ((((((((((((((s6.trans s7).trans s8).trans s9).trans n1).trans s10).trans s11).trans s12).trans s13).trans s14).trans s15).trans s16).trans s17).trans n2).trans n3)
    have r6 : IsErr _ a6 (c 6) := e6.is.mono (((((((((((((s7.trans s8).trans s9).trans n1).trans s10).trans s11).trans s12).trans s13).trans s14).trans s15).trans s16).trans s17).trans n2).trans n3)
    have r7 : IsErr _ a7 (c 7) := e7.is.mono ((((((((((((s8.trans s9).trans n1).trans s10).trans s11).trans s12).trans s13).trans s14).trans s15).trans s16).trans s17).trans n2).trans n3)
    have r8 : IsErr _ a8 (c 8) := e8.is.mono (((((((((((s9.trans n1).trans s10).trans s11).trans s12).trans s13).trans s14).trans s15).trans s16).trans s17).trans n2).trans n3)
    have r9 : IsErr _ a9 (c 9) := e9.is.mono ((((((((((n1.trans s10).trans s11).trans s12).trans s13).trans s14).trans s15).trans s16).trans s17).trans n2).trans n3)
    have r10 : IsErr _ a10 (c 10) := e10.is.mono ((((((((s11.trans s12).trans s13).trans s14).trans s15).trans s16).trans s17).trans n2).trans n3)
    have r11 : IsErr _ a11 (c 11) := e11.is.mono (((((((s12.trans s13).trans s14).trans s15).trans s16).trans s17).trans n2).trans n3)
    have r12 : IsErr _ a12 (c 12) := e12.is.mono ((((((s13.trans s14).trans s15).trans s16).trans s17).trans n2).trans n3)
    have r13 : IsErr _ a13 (c 13) := e13.is.mono (((((s14.trans s15).trans s16).trans s17).trans n2).trans n3)
    have r14 : IsErr _ a14 (c 14) := e14.is.mono ((((s15.trans s16).trans s17).trans n2).trans n3)
    have r15 : IsErr _ a15 (c 15) := e15.is.mono (((s16.trans s17).trans n2).trans n3)
    have r16 : IsErr _ a16 (c 16) := e16.is.mono ((s17.trans n2).trans n3)
    have r17 : IsErr _ a17 (c 17) := e17.is.mono (n2.trans n3)
    have h3 : (upd (upd H17 l2 (.lst [V.ref a10, V.ref a11, V.ref a12, V.ref a13, V.ref a14, V.ref a15, V.ref a16, V.ref a17])) l3 (.lst ([V.ref a0, V.ref a1, V.ref a2, V.ref a3, V.ref a4, V.ref a5, V.ref a6, V.ref a7, V.ref a8, V.ref a9] ++ [V.ref a10, V.ref a11, V.ref a12, V.ref a13, V.ref a14, V.ref a15, V.ref a16, V.ref a17]))) l3 = some (.lst ([V.ref a0, V.ref a1, V.ref a2, V.ref a3, V.ref a4, V.ref a5, V.ref a6, V.ref a7, V.ref a8, V.ref a9] ++ [V.ref a10, V.ref a11, V.ref a12, V.ref a13, V.ref a14, V.ref a15, V.ref a16, V.ref a17])) := upd_same
    clear e0 e1 e2 e3 e4 e5 e6 e7 e8 e9 e10 e11 e12 e13 e14 e15 e16 e17 sA n1 n2 n3 sB pen hT s0 s1 s2 s3 s4 s5 s6 s7 s8 s9 s10 s11 s12 s13 s14 s15 s16 s17
    generalize upd (upd H17 l2 _) l3 _ = HA at penA TA h3 r0 r1 r2 r3 r4 r5 r6 r7 r8 r9 r10 r11 r12 r13 r14 r15 r16 r17 ⊢
    refine ⟨.ref l3, rfl, fun a18 f18 => ⟨_, _, .int _, .int _, fun _ => none, rfl, trivial, trivial, (fun _ _ z => nomatch z), (fun _ _ _ z => nomatch z), .int _, .int _, fun a19 H19 f19 s19 e19 => ⟨by show 2 ≤ sizeLine; decide, fun l4 f4 => ?_⟩⟩⟩
    have n18 := same_new (o := EXO (c 18) a18 none) f18
    have n4 := same_new (o := .lst [V.ref a18, V.ref a19]) f4
    have s4 := (n18.trans s19).trans n4
    refine ⟨l3, l4, _, _, rfl, rfl, s4 _ _ h3, upd_same, by show 20 ≤ sizeLine; decide, fun l5 f5 => ?_⟩
    have s5 := s4.trans (same_new (o := .lst (([V.ref a0, V.ref a1, V.ref a2, V.ref a3, V.ref a4, V.ref a5, V.ref a6, V.ref a7, V.ref a8, V.ref a9] ++ [V.ref a10, V.ref a11, V.ref a12, V.ref a13, V.ref a14, V.ref a15, V.ref a16, V.ref a17]) ++ [V.ref a18, V.ref a19])) f5)
    have r18 : IsErr (upd HA a18 (EXO (c 18) a18 none)) a18 (c 18) := ⟨none, upd_same, fun _ z => nomatch z⟩
    let as : Nat → Addr := fun j => [a0, a1, a2, a3, a4, a5, a6, a7, a8, a9, a10, a11, a12, a13, a14, a15, a16, a17, a18, a19].getD j 0
    refine ⟨l5, as, rfl, SqL.of upd_same, fun i hi => ?_, fun H6 s6 => ?_⟩
    · match i, hi with
      | 0, _ => exact r0.mono s5
      | 1, _ => exact r1.mono s5
      | 2, _ => exact r2.mono s5
      | 3, _ => exact r3.mono s5
      | 4, _ => exact r4.mono s5
      | 5, _ => exact r5.mono s5
      | 6, _ => exact r6.mono s5
      | 7, _ => exact r7.mono s5
      | 8, _ => exact r8.mono s5
      | 9, _ => exact r9.mono s5
      | 10, _ => exact r10.mono s5
      | 11, _ => exact r11.mono s5
      | 12, _ => exact r12.mono s5
      | 13, _ => exact r13.mono s5
      | 14, _ => exact r14.mono s5
      | 15, _ => exact r15.mono s5
      | 16, _ => exact r16.mono s5
      | 17, _ => exact r17.mono s5
      | 18, _ => exact r18.mono ((s19.trans n4).trans (same_new f5))
      | 19, _ => exact e19.is.mono (n4.trans (same_new f5))
      | _ + 20, h => omega
    have s56 := s5.trans s6
    obtain ⟨od, eo, ex⟩ := r0.mono s56
    refine ⟨true, rfl, iteF ⟨.ref l3, rfl, l3, _, 0, .ref a0, rfl, rfl, SqL.of (s56 _ _ h3), rfl, a0, c 0, od, .ref cV, .ref cV, false, rfl, .own _, Z.t 0 (by decide), eo, ex, kV, false, rfl, iteF ?_⟩⟩
    have pen6 := penA.mono s56 (Nat.le_refl 0)
    have T6 := s56 _ _ TA
    clear eo ex s56 s6 s5 s4 penA TA h3 r18 e19 r0 r1 r2 r3 r4 r5 r6 r7 r8 r9 r10 r11 r12 r13 r14 r15 r16 r17
    refine ⟨fun p hp => by rw [List.mem_singleton.mp hp]; exact LamX.TabS.nil T6, fun HL1 x1 t1 Q1 d1 fs1 H7 s7 hd1 => ⟨cPl, d1, fs1, rfl, rfl, hd1, E1.t, E1.e, E1.k, fun H8 s8 => ⟨by show 1 ≤ sizeLine; decide, fun lh flh => ?_⟩⟩⟩
    have pen8 := (pen_ext pen6 x1).mono (s7.trans s8) (Nat.le_refl 0)
    obtain ⟨np, nc⟩ := pen_ne pen8 flh
    have pen9 := pen8.mono (same_new (o := .lst [V.bl true]) flh) (Nat.le_refl 0)
    have t9 := t1.ext ((s7.trans s8).trans (same_new (o := .lst [V.bl true]) flh))
    have h9 : (upd H8 lh (.lst [V.bl true])) lh = some (.lst [V.bl true]) := upd_same
    clear pen8 pen6 T6 x1 t1 s7 s8 hd1 flh
    generalize upd H8 lh _ = H9 at pen9 t9 h9 ⊢
    refine ⟨.ref lh, rfl, Or.inl ⟨rfl, _, Or.inl (Or.inl h9)⟩, t9, fun HL10 x10 t10' Q10 d10 fs10 H10 s10 hd10 => ⟨cRi, d10, fs10, rfl, rfl, hd10, E2.t, E2.e, E2.k, fun H11 s11 => ?_⟩⟩
    have hB11 := (s10.trans s11) _ _ (x10 _ _ h9 (fun _ z => nomatch z))
    have pB11 := (pen_ext pen9 x10).mono (s10.trans s11) (Nat.le_refl 0)
    have tB11 := t10'.ext (s10.trans s11)
    refine ⟨lh, [V.bl true], .bl true, rfl, rfl, hB11, (show 1 < sizeLine by decide), ?_⟩
    have pen20 := pen_upd (o := .lst ([V.bl true] ++ [V.bl true])) pB11 np nc
    have t20 := tabs_lst (ys := ([V.bl true] ++ [V.bl true])) tB11 hB11
    have h20 : (upd H11 lh (.lst ([V.bl true] ++ [V.bl true]))) lh = some (.lst ([V.bl true] ++ [V.bl true])) := upd_same
    clear x10 t10' s10 s11 hd10 hB11 pB11 tB11 pen9 t9 h9
    generalize upd H11 lh _ = H20 at pen20 t20 h20 ⊢
    refine ⟨.ref lh, rfl, Or.inl ⟨rfl, _, Or.inl (Or.inl h20)⟩, t20, fun HL12 x12 t12' Q12 d12 fs12 H12 s12 hd12 => ⟨cLo, d12, fs12, rfl, rfl, hd12, E3.t, E3.e, E3.k, fun H13 s13 => ?_⟩⟩
    have hB13 := (s12.trans s13) _ _ (x12 _ _ h20 (fun _ z => nomatch z))
    have pB13 := (pen_ext pen20 x12).mono (s12.trans s13) (Nat.le_refl 0)
    have tB13 := t12'.ext (s12.trans s13)
    refine ⟨lh, ([V.bl true] ++ [V.bl true]), .bl true, rfl, rfl, hB13, (show 2 < sizeLine by decide), ?_⟩
    have pen21 := pen_upd (o := .lst (([V.bl true] ++ [V.bl true]) ++ [V.bl true])) pB13 np nc
    have t21 := tabs_lst (ys := (([V.bl true] ++ [V.bl true]) ++ [V.bl true])) tB13 hB13
    have h21 : (upd H13 lh (.lst (([V.bl true] ++ [V.bl true]) ++ [V.bl true]))) lh = some (.lst (([V.bl true] ++ [V.bl true]) ++ [V.bl true])) := upd_same
    clear x12 t12' s12 s13 hd12 hB13 pB13 tB13 pen20 t20 h20
    generalize upd H13 lh _ = H21 at pen21 t21 h21 ⊢
    refine ⟨.ref lh, rfl, by show 1 ≤ sizeLine; decide, fun l7 f7 => ⟨l7, 3, [.bl true], rfl, rfl, upd_same, by decide, by decide, (show 1 * 3 ≤ sizeLine by decide), fun l8 f8 => ?_⟩⟩
    have s78 := (same_new (o := .lst [V.bl true]) f7).trans (same_new (o := .lst [V.bl true, V.bl true, V.bl true]) f8)
    refine ⟨.list [.bool true, .bool true, .bool true], .list [.bool true, .bool true, .bool true], Dp.lst (SqL.of (s78 _ _ h21)) (.cons (.bl _) (.cons (.bl _) (.cons (.bl _) .nil))), Dp.lst (SqL.of upd_same) (.cons (.bl _) (.cons (.bl _) (.cons (.bl _) .nil))), by decide +kernel, by decide +kernel, _, rfl, ?_⟩
    refine ite2 (fun _ => ?_) (fun z => absurd (by decide +kernel) z)
    refine ⟨.ref p, rfl, p, pc, cells, 0, rfl, pen21.mono s78 (Nat.le_refl 0), by decide, fun H30 pen30 => ⟨true, rfl, iteT ⟨.ref p, rfl, p, pc, cells, _, rfl, pen30, by decide, fun H31 => q H31⟩⟩⟩
end
end K0
end

section
set_option Elab.async false
set_option linter.all false
set_option maxRecDepth 100000
set_option maxHeartbeats 4000000
/-! joined -/
namespace K0
open PySem PySem.Spec PyProof.Rows L2 KZ
theorem code_eq {K : PySem.W.Frag} {x qual : Str} {st : Stmt} {p : He.Defn} {fd : FuncData} (F : Fun K x qual st (He.fAd K p) fd) : fd.code = .ref (He.codeOf K p) := by
  obtain ⟨oc, od, kV, doc, pm, an, cdv, ct, osl, rfl, lk, hcd⟩ := F.ex
  show cdv = _
  cases cdv with
  | ref c => rw [He.codeOf_eq lk (c := c) rfl]
  | _ => cases hcd
theorem joined {w : World} {mg : Str → Option Value} {fa : Addr} {h : Heap} {K : PySem.W.Frag} (X : K.In h) (G : h.Ns mainGlobals mg) (hfa : mg "law" = some (.ref fa)) (c : He.SaysX fas fns [] tfs exC w h K) :
    LawG PySem.Challenge.rw_stayopen_k00_errors_and_checks w K 13 63 "script" mg fa h := by
  have cD : He.SaysD fas fns K := congrArg Prod.fst c.t
  obtain ⟨hx, hvd2⟩ := He.ba c.more
  obtain ⟨hvd, hst⟩ := He.ba hvd2
  have Z := ki_of hx
  have hE : ∀ (k : Nat) (x : Str × List Str), efs[k]? = some x → errI K (He.ga K x.1) x.2 = true := fun k x hk => List.all_eq_true.mp (He.ba hx).1 x (List.mem_of_getElem? hk)
  have g_is_integer := He.glo_ok X G (cD.fact 0 (f := .glo "is_integer") rfl)
  have g_is_within := He.glo_ok X G (cD.fact 1 (f := .glo "is_within") rfl)
  have g_is_name := He.glo_ok X G (cD.fact 2 (f := .glo "is_name") rfl)
  have g_is_place := He.glo_ok X G (cD.fact 3 (f := .glo "is_place") rfl)
  have g_copied := He.glo_ok X G (cD.fact 4 (f := .glo "copied") rfl)
  have g_is_host := He.glo_ok X G (cD.fact 5 (f := .glo "is_host") rfl)
  have g_check_hosts := He.glo_ok X G (cD.fact 6 (f := .glo "check_hosts") rfl)
  have g_need_read_and_keep := He.glo_ok X G (cD.fact 7 (f := .glo "need_read_and_keep") rfl)
  have g_check_lots := He.glo_ok X G (cD.fact 8 (f := .glo "check_lots") rfl)
  have g__law_pen := He.glo_ok X G (cD.fact 9 (f := .glo "_law_pen") rfl)
  have g__law_draw := He.glo_ok X G (cD.fact 10 (f := .glo "_law_draw") rfl)
  have g__law_one := He.glo_ok X G (cD.fact 11 (f := .glo "_law_one") rfl)
  have g__law_value := He.glo_ok X G (cD.fact 12 (f := .glo "_law_value") rfl)
  have g__law_is_whole := He.glo_ok X G (cD.fact 13 (f := .glo "_law_is_whole") rfl)
  have g__law_checks_right := He.glo_ok X G (cD.fact 14 (f := .glo "_law_checks_right") rfl)
  have g__law_same := He.glo_ok X G (cD.fact 15 (f := .glo "_law_same") rfl)
  have g__law_values_kept := He.glo_ok X G (cD.fact 16 (f := .glo "_law_values_kept") rfl)
  have g__law_apart := He.glo_ok X G (cD.fact 17 (f := .glo "_law_apart") rfl)
  have g__law_is_raised := He.glo_ok X G (cD.fact 18 (f := .glo "_law_is_raised") rfl)
  have g_law := He.glo_ok X G (cD.fact 19 (f := .glo "law") rfl)
  have g_BadName := He.glo_ok X G (cD.fact 20 (f := .glo "BadName") rfl)
  have g_BadNumber := He.glo_ok X G (cD.fact 21 (f := .glo "BadNumber") rfl)
  have g_BadBook := He.glo_ok X G (cD.fact 22 (f := .glo "BadBook") rfl)
  have g_BadQuota := He.glo_ok X G (cD.fact 23 (f := .glo "BadQuota") rfl)
  have g_BadRing := He.glo_ok X G (cD.fact 24 (f := .glo "BadRing") rfl)
  have g_BadChange := He.glo_ok X G (cD.fact 25 (f := .glo "BadChange") rfl)
  have g_BadLots := He.glo_ok X G (cD.fact 26 (f := .glo "BadLots") rfl)
  have g_BadCare := He.glo_ok X G (cD.fact 27 (f := .glo "BadCare") rfl)
  have g_BadStep := He.glo_ok X G (cD.fact 28 (f := .glo "BadStep") rfl)
  have g_BadAsk := He.glo_ok X G (cD.fact 29 (f := .glo "BadAsk") rfl)
  have g_BadPlayer := He.glo_ok X G (cD.fact 30 (f := .glo "BadPlayer") rfl)
  have g_BadText := He.glo_ok X G (cD.fact 31 (f := .glo "BadText") rfl)
  have g_BadCommand := He.glo_ok X G (cD.fact 32 (f := .glo "BadCommand") rfl)
  have g_NoHost := He.glo_ok X G (cD.fact 33 (f := .glo "NoHost") rfl)
  have g_NoLetter := He.glo_ok X G (cD.fact 34 (f := .glo "NoLetter") rfl)
  have g_NoClient := He.glo_ok X G (cD.fact 35 (f := .glo "NoClient") rfl)
  have g_NoEpoch := He.glo_ok X G (cD.fact 36 (f := .glo "NoEpoch") rfl)
  have g_Clashing := He.glo_ok X G (cD.fact 37 (f := .glo "Clashing") rfl)
  have g_Nothing := He.glo_ok X G (cD.fact 38 (f := .glo "Nothing") rfl)
  have g_TooMany := He.glo_ok X G (cD.fact 39 (f := .glo "TooMany") rfl)
  have g_OpenError := He.glo_ok X G (cD.fact 40 (f := .glo "OpenError") rfl)
  have g_Ring := He.glo_ok X G (cD.fact 41 (f := .glo "Ring") rfl)
  have g_Verdict := He.glo_ok X G (cD.fact 42 (f := .glo "Verdict") rfl)
  have g_Player := He.glo_ok X G (cD.fact 43 (f := .glo "Player") rfl)
  have g_Store := He.glo_ok X G (cD.fact 44 (f := .glo "Store") rfl)
  have g_Lots := He.glo_ok X G (cD.fact 45 (f := .glo "Lots") rfl)
  have z_isinstance := He.free_ok X G (cD.fact 46 (f := .free "isinstance") rfl)
  have z_int := He.free_ok X G (cD.fact 47 (f := .free "int") rfl)
  have z_bool := He.free_ok X G (cD.fact 48 (f := .free "bool") rfl)
  have z_str := He.free_ok X G (cD.fact 49 (f := .free "str") rfl)
  have z_len := He.free_ok X G (cD.fact 50 (f := .free "len") rfl)
  have z_all := He.free_ok X G (cD.fact 51 (f := .free "all") rfl)
  have z_list := He.free_ok X G (cD.fact 52 (f := .free "list") rfl)
  have z_tuple := He.free_ok X G (cD.fact 53 (f := .free "tuple") rfl)
  have z_dict := He.free_ok X G (cD.fact 54 (f := .free "dict") rfl)
  have z_abs := He.free_ok X G (cD.fact 55 (f := .free "abs") rfl)
  have z_range := He.free_ok X G (cD.fact 56 (f := .free "range") rfl)
  have z_repr := He.free_ok X G (cD.fact 57 (f := .free "repr") rfl)
  have z_enumerate := He.free_ok X G (cD.fact 58 (f := .free "enumerate") rfl)
  have z_ValueError := He.free_ok X G (cD.fact 59 (f := .free "ValueError") rfl)
  have cMost := He.int_ok X G (cD.fact 60 (f := .int "MOST_PLACE" 999999999) rfl)
  have cLot := He.int_ok X G (cD.fact 61 (f := .int "MOST_LOT" 5) rfl)
  have cLets := He.str_ok X G (cD.fact 62 (f := .str "LETTERS" "abcdefghijklmnopqrstuvwxyz") rfl)
  have mRing := He.mkr_ok (cD.fact 63 (f := .mkr "Ring") rfl)
  have mPlayer := He.mkr_ok (cD.fact 64 (f := .mkr "Player") rfl)
  have mLots := He.mkr_ok (cD.fact 65 (f := .mkr "Lots") rfl)
  obtain ⟨nF, nK, _, _⟩ := He.exc_ok (cD.fact 66 (f := .exc "Nothing") rfl)
  have x_BadRing := He.exm_ok (cD.fact 67 (f := .exm "BadRing" "OpenError" true) rfl)
  have x_BadPlayer := He.exm_ok (cD.fact 68 (f := .exm "BadPlayer" "OpenError" true) rfl)
  have x_BadLots := He.exm_ok (cD.fact 69 (f := .exm "BadLots" "OpenError" true) rfl)
  obtain ⟨d_is_integer, F_is_integer⟩ := cD.def_ 0 rfl
  have F_is_integer : Fun K "is_integer" "is_integer" (top 4) (He.ga K "is_integer") d_is_integer := fun_of F_is_integer
  have b_is_integer := F_is_integer.binds (ps := ["value"]) fun _ _ _ _ _ _ us hl => match us, hl with | [_], _ => rfl
  obtain ⟨d_is_within, F_is_within⟩ := cD.def_ 1 rfl
  have F_is_within : Fun K "is_within" "is_within" (top 5) (He.ga K "is_within") d_is_within := fun_of F_is_within
  have b_is_within := F_is_within.binds (ps := ["value", "least", "most"]) fun _ _ _ _ _ _ us hl => match us, hl with | [_, _, _], _ => rfl
  obtain ⟨d_is_name, F_is_name⟩ := cD.def_ 2 rfl
  have F_is_name : Fun K "is_name" "is_name" (top 6) (He.ga K "is_name") d_is_name := fun_of F_is_name
  have b_is_name := F_is_name.binds (ps := ["value"]) fun _ _ _ _ _ _ us hl => match us, hl with | [_], _ => rfl
  obtain ⟨d_is_place, F_is_place⟩ := cD.def_ 3 rfl
  have F_is_place : Fun K "is_place" "is_place" (top 7) (He.ga K "is_place") d_is_place := fun_of F_is_place
  have b_is_place := F_is_place.binds (ps := ["value"]) fun _ _ _ _ _ _ us hl => match us, hl with | [_], _ => rfl
  obtain ⟨d_copied, F_copied⟩ := cD.def_ 4 rfl
  have F_copied : Fun K "copied" "copied" (top 9) (He.ga K "copied") d_copied := fun_of F_copied
  have b_copied := F_copied.binds (ps := ["value"]) fun _ _ _ _ _ _ us hl => match us, hl with | [_], _ => rfl
  obtain ⟨d_is_host, F_is_host⟩ := cD.def_ 5 rfl
  have F_is_host : Fun K "is_host" "is_host" (top 59) (He.ga K "is_host") d_is_host := fun_of F_is_host
  have b_is_host := F_is_host.binds (ps := ["value"]) fun _ _ _ _ _ _ us hl => match us, hl with | [_], _ => rfl
  obtain ⟨d_check_hosts, F_check_hosts⟩ := cD.def_ 6 rfl
  have F_check_hosts : Fun K "check_hosts" "check_hosts" (top 66) (He.ga K "check_hosts") d_check_hosts := fun_of F_check_hosts
  have b_check_hosts := F_check_hosts.binds (ps := ["hosts"]) fun _ _ _ _ _ _ us hl => match us, hl with | [_], _ => rfl
  obtain ⟨d_need_read_and_keep, F_need_read_and_keep⟩ := cD.def_ 7 rfl
  have F_need_read_and_keep : Fun K "need_read_and_keep" "need_read_and_keep" (top 77) (He.ga K "need_read_and_keep") d_need_read_and_keep := fun_of F_need_read_and_keep
  have b_need_read_and_keep := F_need_read_and_keep.binds (ps := ["read", "keep"]) fun _ _ _ _ _ _ us hl => match us, hl with | [_, _], _ => rfl
  obtain ⟨d_check_lots, F_check_lots⟩ := cD.def_ 8 rfl
  have F_check_lots : Fun K "check_lots" "check_lots" (top 78) (He.ga K "check_lots") d_check_lots := fun_of F_check_lots
  have b_check_lots := F_check_lots.binds (ps := ["read", "keep", "sweep", "spare"]) fun _ _ _ _ _ _ us hl => match us, hl with | [_, _, _, _], _ => rfl
  obtain ⟨d_l_pen, F_l_pen⟩ := cD.def_ 9 rfl
  have F_l_pen : Fun K "_law_pen" "_law_pen" (top 161) (He.ga K "_law_pen") d_l_pen := fun_of F_l_pen
  have b_l_pen := F_l_pen.binds (ps := ["script"]) fun _ _ _ _ _ _ us hl => match us, hl with | [_], _ => rfl
  obtain ⟨d_l_draw, F_l_draw⟩ := cD.def_ 10 rfl
  have F_l_draw : Fun K "_law_draw" "_law_draw" (top 162) (He.ga K "_law_draw") d_l_draw := fun_of F_l_draw
  have b_l_draw := F_l_draw.binds (ps := ["pen", "many"]) fun _ _ _ _ _ _ us hl => match us, hl with | [_, _], _ => rfl
  obtain ⟨d_l_one, F_l_one⟩ := cD.def_ 11 rfl
  have F_l_one : Fun K "_law_one" "_law_one" (top 163) (He.ga K "_law_one") d_l_one := fun_of F_l_one
  have b_l_one := F_l_one.binds (ps := ["pen", "some"]) fun _ _ _ _ _ _ us hl => match us, hl with | [_, _], _ => rfl
  obtain ⟨d_l_value, F_l_value⟩ := cD.def_ 12 rfl
  have F_l_value : Fun K "_law_value" "_law_value" (top 164) (He.ga K "_law_value") d_l_value := fun_of F_l_value
  have b_l_value := F_l_value.binds (ps := ["pen", "deep"]) fun _ _ _ _ _ _ us hl => match us, hl with | [_, _], _ => rfl
  obtain ⟨d_l_is_whole, F_l_is_whole⟩ := cD.def_ 13 rfl
  have F_l_is_whole : Fun K "_law_is_whole" "_law_is_whole" (top 165) (He.ga K "_law_is_whole") d_l_is_whole := fun_of F_l_is_whole
  have b_l_is_whole := F_l_is_whole.binds (ps := ["value", "least", "most"]) fun _ _ _ _ _ _ us hl => match us, hl with | [_, _, _], _ => rfl
  obtain ⟨d_l_checks_right, F_l_checks_right⟩ := cD.def_ 14 rfl
  have F_l_checks_right : Fun K "_law_checks_right" "_law_checks_right" (top 166) (He.ga K "_law_checks_right") d_l_checks_right := fun_of F_l_checks_right
  have b_l_checks_right := F_l_checks_right.binds (ps := ["pen"]) fun _ _ _ _ _ _ us hl => match us, hl with | [_], _ => rfl
  obtain ⟨d_l_same, F_l_same⟩ := cD.def_ 15 rfl
  have F_l_same : Fun K "_law_same" "_law_same" (top 167) (He.ga K "_law_same") d_l_same := fun_of F_l_same
  have b_l_same := F_l_same.binds (ps := ["one", "other"]) fun _ _ _ _ _ _ us hl => match us, hl with | [_, _], _ => rfl
  obtain ⟨d_l_values_kept, F_l_values_kept⟩ := cD.def_ 16 rfl
  have F_l_values_kept : Fun K "_law_values_kept" "_law_values_kept" (top 168) (He.ga K "_law_values_kept") d_l_values_kept := fun_of F_l_values_kept
  have b_l_values_kept := F_l_values_kept.binds (ps := ["pen"]) fun _ _ _ _ _ _ us hl => match us, hl with | [_], _ => rfl
  obtain ⟨d_l_apart, F_l_apart⟩ := cD.def_ 17 rfl
  have F_l_apart : Fun K "_law_apart" "_law_apart" (top 169) (He.ga K "_law_apart") d_l_apart := fun_of F_l_apart
  have b_l_apart := F_l_apart.binds (ps := ["some"]) fun _ _ _ _ _ _ us hl => match us, hl with | [_], _ => rfl
  obtain ⟨d_l_is_raised, F_l_is_raised⟩ := cD.def_ 18 rfl
  have F_l_is_raised : Fun K "_law_is_raised" "_law_is_raised" (top 170) (He.ga K "_law_is_raised") d_l_is_raised := fun_of F_l_is_raised
  have b_l_is_raised := F_l_is_raised.binds (ps := ["call"]) fun _ _ _ _ _ _ us hl => match us, hl with | [_], _ => rfl
  obtain ⟨d_law, F_law⟩ := cD.def_ 19 rfl
  have F_law : Fun K "law" "law" (top 171) (He.ga K "law") d_law := fun_of F_law
  have b_law := F_law.binds (ps := ["script"]) fun _ _ _ _ _ _ us hl => match us, hl with | [_], _ => rfl
  obtain ⟨d_BadName, F_BadName⟩ := cD.def_ 20 rfl
  have F_BadName : Fun K "__init__" "BadName.__init__" (mem 12 0) (He.ma K (He.ga K "BadName") "__init__") d_BadName := fun_of F_BadName
  obtain ⟨d_BadNumber, F_BadNumber⟩ := cD.def_ 21 rfl
  have F_BadNumber : Fun K "__init__" "BadNumber.__init__" (mem 13 0) (He.ma K (He.ga K "BadNumber") "__init__") d_BadNumber := fun_of F_BadNumber
  obtain ⟨d_BadBook, F_BadBook⟩ := cD.def_ 22 rfl
  have F_BadBook : Fun K "__init__" "BadBook.__init__" (mem 14 0) (He.ma K (He.ga K "BadBook") "__init__") d_BadBook := fun_of F_BadBook
  obtain ⟨d_BadQuota, F_BadQuota⟩ := cD.def_ 23 rfl
  have F_BadQuota : Fun K "__init__" "BadQuota.__init__" (mem 15 0) (He.ma K (He.ga K "BadQuota") "__init__") d_BadQuota := fun_of F_BadQuota
  obtain ⟨d_BadRing, F_BadRing⟩ := cD.def_ 24 rfl
  have F_BadRing : Fun K "__init__" "BadRing.__init__" (mem 16 0) (He.ma K (He.ga K "BadRing") "__init__") d_BadRing := fun_of F_BadRing
  obtain ⟨d_BadChange, F_BadChange⟩ := cD.def_ 25 rfl
  have F_BadChange : Fun K "__init__" "BadChange.__init__" (mem 17 0) (He.ma K (He.ga K "BadChange") "__init__") d_BadChange := fun_of F_BadChange
  obtain ⟨d_BadLots, F_BadLots⟩ := cD.def_ 26 rfl
  have F_BadLots : Fun K "__init__" "BadLots.__init__" (mem 18 0) (He.ma K (He.ga K "BadLots") "__init__") d_BadLots := fun_of F_BadLots
  obtain ⟨d_BadCare, F_BadCare⟩ := cD.def_ 27 rfl
  have F_BadCare : Fun K "__init__" "BadCare.__init__" (mem 19 0) (He.ma K (He.ga K "BadCare") "__init__") d_BadCare := fun_of F_BadCare
  obtain ⟨d_BadStep, F_BadStep⟩ := cD.def_ 28 rfl
  have F_BadStep : Fun K "__init__" "BadStep.__init__" (mem 20 0) (He.ma K (He.ga K "BadStep") "__init__") d_BadStep := fun_of F_BadStep
  obtain ⟨d_BadAsk, F_BadAsk⟩ := cD.def_ 29 rfl
  have F_BadAsk : Fun K "__init__" "BadAsk.__init__" (mem 21 0) (He.ma K (He.ga K "BadAsk") "__init__") d_BadAsk := fun_of F_BadAsk
  obtain ⟨d_BadPlayer, F_BadPlayer⟩ := cD.def_ 30 rfl
  have F_BadPlayer : Fun K "__init__" "BadPlayer.__init__" (mem 22 0) (He.ma K (He.ga K "BadPlayer") "__init__") d_BadPlayer := fun_of F_BadPlayer
  obtain ⟨d_BadText, F_BadText⟩ := cD.def_ 31 rfl
  have F_BadText : Fun K "__init__" "BadText.__init__" (mem 23 0) (He.ma K (He.ga K "BadText") "__init__") d_BadText := fun_of F_BadText
  obtain ⟨d_BadCommand, F_BadCommand⟩ := cD.def_ 32 rfl
  have F_BadCommand : Fun K "__init__" "BadCommand.__init__" (mem 24 0) (He.ma K (He.ga K "BadCommand") "__init__") d_BadCommand := fun_of F_BadCommand
  obtain ⟨d_NoHost, F_NoHost⟩ := cD.def_ 33 rfl
  have F_NoHost : Fun K "__init__" "NoHost.__init__" (mem 25 0) (He.ma K (He.ga K "NoHost") "__init__") d_NoHost := fun_of F_NoHost
  obtain ⟨d_NoLetter, F_NoLetter⟩ := cD.def_ 34 rfl
  have F_NoLetter : Fun K "__init__" "NoLetter.__init__" (mem 26 0) (He.ma K (He.ga K "NoLetter") "__init__") d_NoLetter := fun_of F_NoLetter
  obtain ⟨d_NoClient, F_NoClient⟩ := cD.def_ 35 rfl
  have F_NoClient : Fun K "__init__" "NoClient.__init__" (mem 27 0) (He.ma K (He.ga K "NoClient") "__init__") d_NoClient := fun_of F_NoClient
  obtain ⟨d_NoEpoch, F_NoEpoch⟩ := cD.def_ 36 rfl
  have F_NoEpoch : Fun K "__init__" "NoEpoch.__init__" (mem 28 0) (He.ma K (He.ga K "NoEpoch") "__init__") d_NoEpoch := fun_of F_NoEpoch
  obtain ⟨d_Clashing, F_Clashing⟩ := cD.def_ 37 rfl
  have F_Clashing : Fun K "__init__" "Clashing.__init__" (mem 29 0) (He.ma K (He.ga K "Clashing") "__init__") d_Clashing := fun_of F_Clashing
  obtain ⟨d_TooMany, F_TooMany⟩ := cD.def_ 38 rfl
  have F_TooMany : Fun K "__init__" "TooMany.__init__" (mem 31 0) (He.ma K (He.ga K "TooMany") "__init__") d_TooMany := fun_of F_TooMany
  obtain ⟨d_Ring, F_Ring⟩ := cD.def_ 39 rfl
  have F_Ring : Fun K "__init__" "Ring.__init__" (mem 65 0) (He.ma K (He.ga K "Ring") "__init__") d_Ring := fun_of F_Ring
  obtain ⟨d_Player, F_Player⟩ := cD.def_ 40 rfl
  have F_Player : Fun K "__init__" "Player.__init__" (mem 155 0) (He.ma K (He.ga K "Player") "__init__") d_Player := fun_of F_Player
  have b_Player := F_Player.binds (ps := ["self", "store"]) fun _ _ _ _ _ _ us hl => match us, hl with | [_, _], _ => rfl
  obtain ⟨d_Lots, F_Lots⟩ := cD.def_ 41 rfl
  obtain ⟨dsL, hdL, b_Lots⟩ := lo_binds F_Lots
  have T0 : B0 mg := ⟨z_isinstance, z_int, z_bool, z_str, z_len, z_all, z_list, z_tuple, z_dict⟩
  have T : B1 mg := ⟨T0, z_abs, z_range, z_repr, z_enumerate⟩
  have U : D0 mg _ _ _ := ⟨g__law_draw, g__law_one, g__law_value⟩
  have C : C0 mg _ _ := ⟨cLets, cMost, g_is_integer, g_is_within⟩
  have e_BadName : errI K (He.ga K "BadName") ["value"] = true := hE 0 ("BadName", ["value"]) (by rfl)
  have e_BadNumber : errI K (He.ga K "BadNumber") ["value"] = true := hE 1 ("BadNumber", ["value"]) (by rfl)
  have e_BadBook : errI K (He.ga K "BadBook") ["part"] = true := hE 2 ("BadBook", ["part"]) (by rfl)
  have e_BadQuota : errI K (He.ga K "BadQuota") ["part"] = true := hE 3 ("BadQuota", ["part"]) (by rfl)
  have e_BadRing : errI K (He.ga K "BadRing") ["part"] = true := hE 4 ("BadRing", ["part"]) (by rfl)
  have e_BadChange : errI K (He.ga K "BadChange") ["value"] = true := hE 5 ("BadChange", ["value"]) (by rfl)
  have e_BadLots : errI K (He.ga K "BadLots") ["part"] = true := hE 6 ("BadLots", ["part"]) (by rfl)
  have e_BadCare : errI K (He.ga K "BadCare") ["value"] = true := hE 7 ("BadCare", ["value"]) (by rfl)
  have e_BadStep : errI K (He.ga K "BadStep") ["value"] = true := hE 8 ("BadStep", ["value"]) (by rfl)
  have e_BadAsk : errI K (He.ga K "BadAsk") ["part"] = true := hE 9 ("BadAsk", ["part"]) (by rfl)
  have e_BadPlayer : errI K (He.ga K "BadPlayer") ["part"] = true := hE 10 ("BadPlayer", ["part"]) (by rfl)
  have e_BadText : errI K (He.ga K "BadText") ["line", "word"] = true := hE 11 ("BadText", ["line", "word"]) (by rfl)
  have e_BadCommand : errI K (He.ga K "BadCommand") ["word"] = true := hE 12 ("BadCommand", ["word"]) (by rfl)
  have e_NoHost : errI K (He.ga K "NoHost") ["place"] = true := hE 13 ("NoHost", ["place"]) (by rfl)
  have e_NoLetter : errI K (He.ga K "NoLetter") ["number"] = true := hE 14 ("NoLetter", ["number"]) (by rfl)
  have e_NoClient : errI K (He.ga K "NoClient") ["name"] = true := hE 15 ("NoClient", ["name"]) (by rfl)
  have e_NoEpoch : errI K (He.ga K "NoEpoch") ["number"] = true := hE 16 ("NoEpoch", ["number"]) (by rfl)
  have e_Clashing : errI K (He.ga K "Clashing") ["part"] = true := hE 17 ("Clashing", ["part"]) (by rfl)
  have e_TooMany : errI K (He.ga K "TooMany") ["what", "most"] = true := hE 18 ("TooMany", ["what", "most"]) (by rfl)
  have gc : ∀ i, i < 20 → mg (ename i) = some (.ref (He.ga K (ename i))) := fun i hi => by
    match i, hi with
    | 0, _ => exact g_BadName
    | 1, _ => exact g_BadNumber
    | 2, _ => exact g_BadBook
    | 3, _ => exact g_BadQuota
    | 4, _ => exact g_BadRing
    | 5, _ => exact g_BadChange
    | 6, _ => exact g_BadLots
    | 7, _ => exact g_BadCare
    | 8, _ => exact g_BadStep
    | 9, _ => exact g_BadAsk
    | 10, _ => exact g_BadPlayer
    | 11, _ => exact g_BadText
    | 12, _ => exact g_BadCommand
    | 13, _ => exact g_NoHost
    | 14, _ => exact g_NoLetter
    | 15, _ => exact g_NoClient
    | 16, _ => exact g_NoEpoch
    | 17, _ => exact g_Clashing
    | 18, _ => exact g_Nothing
    | 19, _ => exact g_TooMany
    | _ + 20, h => omega
  have kb : KB K d_is_integer d_is_within d_is_name d_is_place := ⟨kb_one F_is_integer (fun _ _ _ _ _ _ _ => rfl) (fun _ _ _ _ _ _ _ => rfl), kb_three F_is_within (fun _ _ _ _ _ _ _ _ _ => rfl) (fun _ _ _ _ _ _ _ _ _ => rfl) (fun _ _ _ _ _ _ _ _ _ => rfl) (fun _ _ _ _ _ _ _ _ _ => rfl), kb_one F_is_name (fun _ _ _ _ _ _ _ => rfl) (fun _ _ _ _ _ _ _ => rfl), kb_one F_is_place (fun _ _ _ _ _ _ _ => rfl) (fun _ _ _ _ _ _ _ => rfl)⟩
  refine ⟨d_law, [He.cT K ("law", none)], spLaw K (He.cT K ("law", none)).2, fun p hp => ?_, fun p hp => ?_, fun p hp => ?_, fun s u => ?_, fun H a ns hl _ hH hS => ?_, fun base X2 G2 hb hT => ?_⟩
  · rw [List.mem_singleton.mp hp]; exact c.empty _ List.mem_cons_self
  · rw [List.mem_singleton.mp hp]; exact c.out _ List.mem_cons_self
  · rw [List.mem_singleton.mp hp]; exact PySem.W.codeHd_of_K X (c.hd _ List.mem_cons_self)
  · obtain ⟨oc, od, kV, doc, pm, an, cdv, ct, osl, rfl, _⟩ := F_law.ex
    exact .of_eq rfl
  · exact ⟨a, ns, rfl, hS, hl, hH _ List.mem_cons_self, fun _ => rfl⟩
  · have efa := hfa.symm.trans g_law
    cases efa
    have M : Ms PySem.Challenge.rw_stayopen_k00_errors_and_checks.prog w K mg base (fun i => He.ga K (ename i)) := ⟨mk_BadName e_BadName g_BadName F_BadName T0 g_copied F_copied b_copied, mk_BadNumber e_BadNumber g_BadNumber F_BadNumber T0 g_copied F_copied b_copied, mk_BadBook e_BadBook g_BadBook F_BadBook T0 g_copied F_copied b_copied, mk_BadQuota e_BadQuota g_BadQuota F_BadQuota T0 g_copied F_copied b_copied, mk_BadRing e_BadRing g_BadRing F_BadRing T0 g_copied F_copied b_copied, mk_BadChange e_BadChange g_BadChange F_BadChange T0 g_copied F_copied b_copied, mk_BadLots e_BadLots g_BadLots F_BadLots T0 g_copied F_copied b_copied, mk_BadCare e_BadCare g_BadCare F_BadCare T0 g_copied F_copied b_copied, mk_BadStep e_BadStep g_BadStep F_BadStep T0 g_copied F_copied b_copied, mk_BadAsk e_BadAsk g_BadAsk F_BadAsk T0 g_copied F_copied b_copied, mk_BadPlayer e_BadPlayer g_BadPlayer F_BadPlayer T0 g_copied F_copied b_copied, mk_BadText e_BadText g_BadText F_BadText T0 g_copied F_copied b_copied, mk_BadCommand e_BadCommand g_BadCommand F_BadCommand T0 g_copied F_copied b_copied, mk_NoHost e_NoHost g_NoHost F_NoHost T0 g_copied F_copied b_copied, mk_NoLetter e_NoLetter g_NoLetter F_NoLetter T0 g_copied F_copied b_copied, mk_NoClient e_NoClient g_NoClient F_NoClient T0 g_copied F_copied b_copied, mk_NoEpoch e_NoEpoch g_NoEpoch F_NoEpoch T0 g_copied F_copied b_copied, mk_Clashing e_Clashing g_Clashing F_Clashing T0 g_copied F_copied b_copied, mk_TooMany e_TooMany g_TooMany F_TooMany T0 g_copied F_copied b_copied⟩
    have GK := ok_kept (P := PySem.Challenge.rw_stayopen_k00_errors_and_checks.prog) (w := w) hb F_l_values_kept T U M g__law_same F_l_draw b_l_draw F_l_one b_l_one F_l_value b_l_value F_l_same b_l_same
    have GC := ok_checks (P := PySem.Challenge.rw_stayopen_k00_errors_and_checks.prog) (w := w) hb F_l_checks_right T U C g_is_name g_is_place g__law_is_whole F_l_draw b_l_draw F_l_one b_l_one F_l_value b_l_value F_is_integer b_is_integer F_is_within b_is_within F_is_name b_is_name F_is_place b_is_place F_l_is_whole b_l_is_whole kb
    have GA := ok_apart (P := PySem.Challenge.rw_stayopen_k00_errors_and_checks.prog) (w := w) (base := base) F_l_apart T Z gc g_OpenError z_ValueError
    have GH := ok_host (P := PySem.Challenge.rw_stayopen_k00_errors_and_checks.prog) (w := w) (base := base) F_is_host T C g_is_name g_is_place F_is_integer b_is_integer F_is_within b_is_within F_is_name b_is_name F_is_place b_is_place
    have GCh := ok_check_hosts F_check_hosts T g_is_host GH F_is_host.kp b_is_host M.BadRing
    have GR := ok_ring F_Ring g_check_hosts GCh F_check_hosts.kp b_check_hosts
    have GPl := ok_player F_Player T0 g_Store (of_decide_eq_true hst) M.BadPlayer
    have GRk := ok_rk F_need_read_and_keep T0 C cLot F_is_integer b_is_integer F_is_within b_is_within M.BadLots
    have GCl := ok_cl F_check_lots g_need_read_and_keep GRk F_need_read_and_keep.kp b_need_read_and_keep
    have GLo := ok_lo F_Lots g_check_lots GCl F_check_lots.kp b_check_lots
    exact ok_law mPlayer GPl b_Player g_Player mLots GLo hdL b_Lots g_Lots mRing GR g_Ring ⟨Z.t 10 (by decide), x_BadPlayer, Z.v 10 (by decide)⟩ ⟨Z.t 4 (by decide), x_BadRing, Z.v 4 (by decide)⟩ ⟨Z.t 6 (by decide), x_BadLots, Z.v 6 (by decide)⟩ F_law (code_eq (p := ("law", none)) F_law) (hT _ List.mem_cons_self) T M Z g_OpenError z_ValueError g_Verdict nF g_Nothing nK (of_decide_eq_true hvd) g__law_pen F_l_pen b_l_pen g__law_apart F_l_apart b_l_apart GA g__law_values_kept F_l_values_kept b_l_values_kept GK g__law_checks_right F_l_checks_right b_l_checks_right GC g__law_is_raised F_l_is_raised b_l_is_raised
end K0
end

section
open PySem PySem.W PySem.Calls PyProof.Rows
set_option Elab.async false
set_option linter.all false
set_option maxRecDepth 100000
set_option maxHeartbeats 0
theorem PySem.Challenge.cw_stayopen_k00_errors_and_checks_holds : PySem.Challenge.rw_stayopen_k00_errors_and_checks.Holds := by
  w_on; o_law
  refine HandSHeadRun.head_any (r := OpenLaw.row PySem.Challenge.rw_stayopen_k00_errors_and_checks) (q := view (OpenLaw.row PySem.Challenge.rw_stayopen_k00_errors_and_checks).prog [171]) (H := K0.hk) (ob := K0.ob) (M := 20000) (loose := K0.nms) (d := HandSHeadRun.topDef (OpenLaw.row PySem.Challenge.rw_stayopen_k00_errors_and_checks).prog 171) (kwd := []) K0.ob_eq
    (by kernel_rfl) (fun s => by kernel_rfl) K0.run (by kernel_rfl) (by kernel_rfl) (by kernel_rfl) (by rfl) (by first | assumption | decide +kernel) (by decide +kernel) ⟨rfl, rfl, rfl, rfl, rfl, by decide +kernel⟩ ?hw ?hc
  case hw => w_witness2
  case hc =>
    refine KZ.walkGE (l := PySem.Challenge.rw_stayopen_k00_errors_and_checks) (n := 63) (k := 13) (x := "script") rfl (by decide) (by kernel_rfl) ⟨rfl, by decide, by decide⟩ (by decide +kernel) ?F
    intro w mg fa h Y G hmg0
    obtain ⟨K, KX, c⟩ := Y
    have hmg : mg ("law" : PySem.Str) = some (.ref fa) := by
      have e : (HandSHeadRun.topDef (OpenLaw.row PySem.Challenge.rw_stayopen_k00_errors_and_checks).prog 171).name = ("law" : PySem.Str) := by kernel_rfl
      rw [← e]
      exact hmg0
    exact ⟨K, KX, K0.joined KX G hmg c⟩
end
