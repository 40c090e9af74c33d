import PyProof.Rows.All
import Wide.All
import OpenK.AllK
import Wide.FinOn
import HandS.Base
import HandS.Call
import HandS.List
import HandS.Exc
import HandS.Lambda
import HandS.Words
import HandS.ExcInit
import HandS.ExcOwn
import KE.KExcIs
import HandS.IsInst
import HandS.EndTab
import HandS.ExcValue
import HandS.Style
import KE.KStateDown
import HandS.Head0
import HandS.Head1
import HandS.Head2
import HandS.HeadEnd
import HandS.HeadHook4
import HandS.NoneIn
import HandS.DictComp
import HandS.Iter
import HandS.OwnEq
import PyProof.InstEq
import PyProof.InstNe
import HandS.Strs
import HandS.TupAny
import HandS.ForMost
import HandS.Walk
import HandS.WordsExc
import HandS.Deep
import PyProof.P3In
import HandS.Defaults
import HandS.Star
import HandS.SortInts
import HandS.Wide
import HandS.TryOnly
import HandS.MakeKw
import HandS.MakeKwOnly
import HandS.Conv
import PySem.Challenge.RW_stayopen_k36_surely_and_tellable
section
set_option Elab.async false
set_option linter.all false
set_option maxRecDepth 100000
set_option maxHeartbeats 4000000
/-! rules of my own over the hand layer: data with dicts, repr of data -/
namespace KZ
open PySem PySem.Spec PyProof.Rows L2

/-- the datum of a key -/
def keyD : Key → PyData
  | .inl i => .int i
  | .inr x => .str x
mutual
/-- v is the datum d, dicts too -/
inductive Dv (K : PySem.W.Frag) (H : Hp) : V → PyData → Prop
  | non : Dv K H .non .none
  | bl (b : Bool) : Dv K H (.bl b) (.bool b)
  | int (i : Int) : Dv K H (.int i) (.int i)
  | str (x : Str) : Dv K H (.str x) (.str x)
  | lst {a : Addr} {xs : List V} {ds : List PyData} : SqL K H a xs → Dvs K H xs ds → Dv K H (.ref a) (.list ds)
  | tup {a : Addr} {xs : List V} {ds : List PyData} : SqT K H a xs → Dvs K H xs ds → Dv K H (.ref a) (.tuple ds)
  | dic {a : Addr} {kvs : List (Key × V)} {ps : List (PyData × PyData)} : Rd H a (.dK kvs) → Dks K H kvs ps → Dv K H (.ref a) (.dict ps)
inductive Dvs (K : PySem.W.Frag) (H : Hp) : List V → List PyData → Prop
  | nil : Dvs K H [] []
  | cons {v : V} {vs : List V} {d : PyData} {ds : List PyData} : Dv K H v d → Dvs K H vs ds → Dvs K H (v :: vs) (d :: ds)
inductive Dks (K : PySem.W.Frag) (H : Hp) : List (Key × V) → List (PyData × PyData) → Prop
  | nil : Dks K H [] []
  | cons {k : Key} {v : V} {kvs : List (Key × V)} {d : PyData} {ps : List (PyData × PyData)} : Dv K H v d → Dks K H kvs ps → Dks K H ((k, v) :: kvs) ((keyD k, d) :: ps)
end

section
variable {X : Cx} {pins : List (Addr × Obj)} {σ : L2.St} {H : Hp} {s : Shared}
def ModsD (h : Heap) : Prop := ∃ o es ep, h.get? sysModules = some o ∧ o.data = .dict es ep
theorem keyD_reads {w : World} {P : Program} {h : Heap} (k : Key) (key : Value) (e : (mixKind P w).is k key = true) : Reads h key (keyD k) [] := by
  rcases keyIs_shape (k := k) (v := key) e with ⟨i, t, rfl, rfl⟩ | ⟨x, t, rfl, rfl⟩
  · exact Reads.int i t
  · exact Reads.str x t
mutual
theorem Dv.reads (I : Inv X pins σ H s) (hm : ModsD s.heap) : ∀ (d : PyData) (v : V) (u : Value), Dv X.K H v d → RelV v u → ∃ as, Reads s.heap u d as ∧ sysModules ∉ as
  | .none, _, _, h, r => by
    cases h; cases r
    exact ⟨_, Reads.none, by simp⟩
  | .bool b, _, _, h, r => by
    cases h; cases r
    exact ⟨_, Reads.bool b, by simp⟩
  | .int i, _, _, h, r => by
    cases h
    obtain ⟨t, rfl⟩ := r
    exact ⟨_, Reads.int i t, by simp⟩
  | .str x, _, _, h, r => by
    cases h
    obtain ⟨t, rfl⟩ := r
    exact ⟨_, Reads.str x t, by simp⟩
  | .list ds, _, _, h, r => by
    cases h with
    | lst hs ha =>
      cases r
      obtain ⟨its, rv, ⟨o, n, ho, hc, _, hd⟩, _⟩ := I.list hs
      obtain ⟨as, hr, na⟩ := Dv.readsAll I hm ds _ its ha rv
      refine ⟨_, Reads.list ho hc hd hr, fun hmem => ?_⟩
      rcases List.mem_cons.mp hmem with z | z
      · obtain ⟨om, es, ep, hg, hq⟩ := hm
        rw [z, ho] at hg
        cases hg
        rw [hd] at hq
        cases hq
      · exact na z
  | .tuple ds, _, _, h, r => by
    cases h with
    | tup hs ha =>
      cases r
      obtain ⟨its, rv, ⟨o, ho, hc, n, hd⟩, _⟩ := I.tuple hs
      obtain ⟨as, hr, na⟩ := Dv.readsAll I hm ds _ its ha rv
      exact ⟨_, Reads.tuple ho hc hd hr, na⟩
  | .dict ps, _, _, h, r => by
    cases h with
    | dic hs ha =>
      cases r
      obtain ⟨_, hne, vs, kv, hD⟩ := hs.ok I.hok
      obtain ⟨as, hr, na⟩ := Dv.readsKv I hm ps _ vs ha kv
      refine ⟨_, PyProof.V.reads_dictOf (enc := keyD) (fun k key e => keyD_reads k key e) hD hr, fun hmem => ?_⟩
      rcases List.mem_cons.mp hmem with z | z
      · rw [← z] at hne
        simp at hne
      · exact na z
theorem Dv.readsAll (I : Inv X pins σ H s) (hm : ModsD s.heap) : ∀ (ds : List PyData) (vs : List V) (us : List Value), Dvs X.K H vs ds → Vals vs us → ∃ as, ReadsAll s.heap us ds as ∧ sysModules ∉ as
  | [], _, _, h, r => by
    cases h; cases r
    exact ⟨_, ReadsAll.nil, by simp⟩
  | d :: ds, _, _, h, r => by
    cases h with
    | cons h1 h2 =>
      cases r with
      | cons r1 r2 =>
        obtain ⟨as, q1, n1⟩ := Dv.reads I hm d _ _ h1 r1
        obtain ⟨bs, q2, n2⟩ := Dv.readsAll I hm ds _ _ h2 r2
        exact ⟨_, ReadsAll.cons q1 q2, fun z => (List.mem_append.mp z).elim n1 n2⟩
theorem Dv.readsKv (I : Inv X pins σ H s) (hm : ModsD s.heap) : ∀ (ps : List (PyData × PyData)) (kvs : List (Key × V)) (us : List (Key × Value)), Dks X.K H kvs ps → KV kvs us → ∃ as, PyProof.V.PairsRead s.heap keyD us ps as ∧ sysModules ∉ as
  | [], _, _, h, r => by
    cases h; cases r
    exact ⟨_, PyProof.V.PairsRead.nil, by simp⟩
  | _ :: ps, _, _, h, r => by
    cases h with
    | cons h1 h2 =>
      cases r with
      | @cons _ q _ _ r1 r2 =>
        obtain ⟨qk, qv⟩ := q
        obtain ⟨e1, r1⟩ := r1
        obtain rfl : _ = qk := e1
        obtain ⟨as, q1, n1⟩ := Dv.reads I hm _ _ _ h1 r1
        obtain ⟨bs, q2, n2⟩ := Dv.readsKv I hm ps _ _ h2 r2
        exact ⟨_, PyProof.V.PairsRead.cons q1 q2, fun z => (List.mem_append.mp z).elim n1 n2⟩
end

/-- what base says of the modules' dict, for every state -/
theorem modsD_of (hb : ModsD X.base) (I : Inv X pins σ H s) : ModsD s.heap :=
  let ⟨o, es, ep, h1, h2⟩ := hb
  ⟨o, es, ep, I.bk _ _ h1, h2⟩

/-- repr(x) of data, no repr being under way -/
def rRepr (K : PySem.W.Frag) : List V → Hp → VK → Prop := fun xs H Q => ∃ (v : V) (d : PyData), xs = [v] ∧ Dv K H v d ∧ d.showable = true ∧ d.shown.length ≤ 10000 ∧ d.depth ≤ 40 ∧ Q (.str d.shown) H
theorem call_reprD (hg : X.A.guards = some []) (hu : X.A.units + 64 < cLine) (hb : ModsD X.base) : CallR X (.builtin "repr") (rRepr X.K) := by
  intro pins s σ H xs us Q I r h
  obtain ⟨v, d, rfl, hd, hs, hl, hdp, q⟩ := h
  obtain ⟨u, rfl, r1⟩ := vals1 r
  obtain ⟨as, hr, na⟩ := Dv.reads I (modsD_of hb I) d v u hd r1
  have hz : d.shown.length ≤ sizeLine := Nat.le_trans hl (by decide)
  cases hd with
  | non =>
    cases r1
    exact PySem.P.repr_of_none ⟨.str _, H, I.tok _, ⟨_, rfl⟩, q⟩
  | bl b =>
    cases r1
    refine PySem.P.repr_of_bool ⟨.str _, H, I.tok _, ⟨_, rfl⟩, ?_⟩
    cases b <;> exact q
  | int i =>
    obtain ⟨t, rfl⟩ := r1
    exact PySem.P.repr_of_int (by simpa [PyData.showable] using hs) ⟨.str _, H, I.tok _, ⟨_, rfl⟩, q⟩
  | str x =>
    obtain ⟨t, rfl⟩ := r1
    exact PySem.P.repr_of_str ⟨.str _, H, I.tok _, ⟨_, rfl⟩, q⟩ (by simpa only [PyData.shown] using hz)
  | lst h1 h2 =>
    cases r1
    exact repr_of_reads' hr hs (fun _ => na) hg (by omega) (fun _ _ e => e) (fun h' u tk hk => ⟨.str _, H, I.kept hk, ⟨_, rfl⟩, q⟩) hz
  | tup h1 h2 =>
    cases r1
    exact repr_of_reads' hr hs (fun _ => na) hg (by omega) (fun _ _ e => e) (fun h' u tk hk => ⟨.str _, H, I.kept hk, ⟨_, rfl⟩, q⟩) hz
  | dic h1 h2 =>
    cases r1
    exact repr_of_reads' hr hs (fun _ => na) hg (by omega) (fun _ _ e => e) (fun h' u tk hk => ⟨.str _, H, I.kept hk, ⟨_, rfl⟩, q⟩) hz
end
end KZ
end

section
set_option Elab.async false
set_option linter.all false
set_option maxRecDepth 100000
set_option maxHeartbeats 4000000
/-! promises of defs that hold where no repr is under way -/
namespace KZ
open PySem PySem.Spec PyProof.Rows L2

structure FnG (P : Program) (w : World) (K : PySem.W.Frag) (mg : Str → Option Value) (base : Heap) (cx : CXT) (k : Nat) (f : Addr) (fd : FuncData) (ps : List Str) (sp : Sp) : Prop where
  len : ∀ vs H Q E, sp vs H Q E → vs.length = ps.length
  runG : ∀ (A : Around) (out : List Env) (s : Shared) (H : Hp) (ar : Args) (us : List Value) (vs : List V) (Q : VK) (E : XK), A.guards = some [] → Room k A → Env0 P w K mg base A out s H → BindsTo s fd ar (ps.zip us) → Vals vs us → sp vs H Q E →
    codeAny (model P w) A (.call (.ref f) ar) (CR cx out P w H s Q E) s
theorem FnG.ofOk {P : Program} {w : World} {K : PySem.W.Frag} {mg : Str → Option Value} {base : Heap} {cx : CXT} {k : Nat} {f : Addr} {fd : FuncData} {ps : List Str} {sp : Sp} (F : FnOk P w K mg base cx k f fd ps sp) : FnG P w K mg base cx k f fd ps sp :=
  ⟨F.len, fun A out s H ar us vs Q E _ hr he hb hv hs => F.run A out s H ar us vs Q E hr he hb hv hs⟩
theorem FnG.mono {P : Program} {w : World} {K : PySem.W.Frag} {mg : Str → Option Value} {base : Heap} {cx : CXT} {j k : Nat} {f : Addr} {fd : FuncData} {ps : List Str} {sp : Sp} (F : FnG P w K mg base cx j f fd ps sp) (h : j ≤ k) : FnG P w K mg base cx k f fd ps sp :=
  ⟨F.len, fun A out s H ar us vs Q E hg hr he hb hv hs => F.runG A out s H ar us vs Q E hg (hr.mono h) he hb hv hs⟩

section
variable {X : Cx} {cx : CXT} {k : Nat} {f : Addr} {fd : FuncData} {ps : List Str} {sp : Sp} {dvs : List V} {ds : List Value} {E : XK} {x : Str} {p pos : Pos} {e : Expr} {es : List Expr} {t : TA}
theorem run_fnG {pins : List (Addr × Obj)} {σ : L2.St} {H : Hp} {s : Shared} {Q : VK} {us : List Value} {vs : List V} (F : FnG X.prog X.w X.K X.mg X.base cx k f fd ps sp) (hgd : X.A.guards = some []) (hr : Room k X.A) (hb : Binds X.K fd ps ds)
    (hd : Vals dvs ds) (hx : Passes cx X E) (I : Inv X pins σ H s) (r : Vals vs us) (h : sp (vs ++ dvs) H Q E) : wpAny (model X.prog X.w) X.A (call (.ref f) us) (EP X pins σ Q) X.xe s := by
  have rr : Vals (vs ++ dvs) (us ++ ds) := r.append hd
  have hl : (us ++ ds).length = ps.length := by rw [← rr.length]; exact F.len _ _ _ _ h
  refine wpAny_call (codeAny_mono (F.runG X.A X.stack s H ⟨us, []⟩ (us ++ ds) (vs ++ dvs) Q E hgd hr I.env0 (hb s us I.kIn hl) rr h) fun r s' hq => ?_)
  rcases r with er | fl
  · exact hx pins σ H s er s' I hq
  · cases fl with
    | ret u => exact I.after hq
    | _ => exact False.elim hq
theorem pe_callG (F : FnG X.prog X.w X.K X.mg X.base cx k f fd ps sp) (hgd : X.A.guards = some []) (hr : Room k X.A) (hg : Gl X x) (hm : X.mg x = some (.ref f)) (hk : PySem.W.keepIn X.K (.ref f) = true) (hb : Binds X.K fd ps ds) (hd : Vals dvs ds) (hx : Passes cx X E)
    (ha : PA X (e :: es) t) (hdb : (x == ("__debug__" : Str)) = false := by decide) (he : starEach (e :: es) X.env = (false, eval e X.env) :: starEach es X.env := by rfl) (hpl : (backTo pos (starEach es X.env)).any (·.1) = false := by rfl) :
    PE X (.Call (.Name x p) (e :: es) [] pos) (tCall sp dvs E t) :=
  ⟨fun pins s σ H Q I h => wpAny_Call_Name_kw (ld_glob I hg hm (PySem.W.callWith_K (h₀ := X.base) I.ok.mod.kin hk (thn (ha.run pos pins s σ H _ I h) fun us s1 ⟨vs, H1, I1, r, q⟩ =>
    ⟨I1.kIn, run_fnG F hgd hr hb hd hx I1 r q⟩) he hpl) hdb)⟩
end

/-- a def, its body walked where no repr is under way -/
theorem okG {P : Program} {w : World} {K : PySem.W.Frag} {mg : Str → Option Value} {base : Heap} {x qual : Str} {st : Stmt} {f : Addr} {fd : FuncData} {N ps : List Str} {k : Nat} {sp : Sp} (F : Fun K x qual st f fd) (S : FnScope N ps (defScope st))
    (len : ∀ vs H Q E, sp vs H Q E → vs.length = ps.length)
    (hbody : ∀ (cdv : Value) (A : Around) (out : List Env) (s : Shared) (H : Hp) (vs : List V) (Q : VK) (E : XK), A.guards = some [] → Room k (A.deeper (envOfC qual (defScope st) s.heap.objs.size f cdv)) → sp vs H Q E →
      ∃ t, PSs (cxOf CX0 P w K mg base N qual (defScope st) f cdv A out s H E).nox (defBody st) t ∧ t { nx := fun _ H' => Q .non H', rt := Q } (start N vs) H) : FnG P w K mg base CX0 (k + 1) f fd ps sp := by
  obtain ⟨oc, od, kV, doc, pm, an, cdv, ct, osl, rfl, lk, hcd⟩ := F.ex
  refine ⟨len, fun A out s H ar us vs Q E hgd hr e0 hb r hsp => LamX.run_ofS (N := N) lk hcd S hr e0 hb r (len _ _ _ _ hsp) fun hr' => ?_⟩
  obtain ⟨t, ht, q⟩ := hbody cdv A out s H vs Q E hgd hr' hsp
  exact ⟨t, ht.nox, q⟩
end KZ
end

section
set_option Elab.async false
set_option linter.all false
set_option maxRecDepth 100000
set_option maxHeartbeats 4000000
/-! errors of the program's own as values: made, read, kept behind a try -/
namespace KZ
open PySem PySem.Spec PyProof.Rows L2

/-- at a: an exception of the class at C, its dict d -/
def EXO (C a : Addr) (d : Option Addr) : HO := .ext fun h => ∃ (oe : Obj) (vs : Array Value), h.get? a = some oe ∧ Zc (.ref C) d oe ∧ oe.data = .fields vs
theorem exo_okE {P : Program} {w : World} {H : Hp} {h : Heap} {C a : Addr} {d : Option Addr} {oe : Obj} {vs : Array Value} (e : h.get? a = some oe) (z : Zc (.ref C) d oe) (f : oe.data = .fields vs) : ObjOk P w H h a (EXO C a d) :=
  ⟨⟨oe, vs, e, z, f⟩, ⟨oe, e⟩, fun _ _ ⟨o, v, q, r⟩ k => ⟨o, v, k o q, r⟩⟩
theorem EXO.get {P : Program} {w : World} {H : Hp} {h : Heap} {C a : Addr} {d : Option Addr} (ok : HOk P w H h) (e : H a = some (EXO C a d)) : ∃ (oe : Obj) (vs : Array Value), h.get? a = some oe ∧ Zc (.ref C) d oe ∧ oe.data = .fields vs := by
  have x : ObjOk P w H h a (.ext fun h => ∃ (oe : Obj) (vs : Array Value), h.get? a = some oe ∧ Zc (.ref C) d oe ∧ oe.data = .fields vs) := ok a _ e
  exact x.1
/-- at dd: the dict of an exception -/
def XD (H : Hp) (dd : Addr) (fs : List (Str × V)) : Prop := H dd = some (exd dd fs) ∨ H dd = some (.xd fs)
theorem XD.get {P : Program} {w : World} {H : Hp} {h : Heap} {dd : Addr} {fs : List (Str × V)} (ok : HOk P w H h) (e : XD H dd fs) : ∃ mA, h.Ns1 dd mA ∧ ∀ f, RelO (fs.lookup f) (mA f) := by
  rcases e with e | e
  · exact exd_at ok e
  · exact ok dd _ e
/-- what the written part says of such a class -/
structure ExcT (K : PySem.W.Frag) (C : Addr) : Prop where
  ga : PySem.W.findIn K (.ref C) "__getattribute__" = some (some (.builtin "BaseException.__getattribute__"))
  gg : PySem.W.findIn K (.ref C) "__getattr__" = some none
  be : PySem.W.subIn K (.ref C) (.type "BaseException") = some true
  hd : PySem.W.hasDictIn K C = true
  kl : PySem.W.findIn K (.ref C) "__class__" = some (some (.builtin "object.__class__"))
  ge : PySem.W.specialIn K (.builtin "object.__class__") "__get__" = some (some (.builtin "getset_descriptor.__get__"))
  tk : PySem.W.takesIn K (.builtin "object.__class__") = some true
  mo : PySem.W.mroIn K C (.type "object") = some true
section
variable {X : Cx} {pins : List (Addr × Obj)} {σ : L2.St} {H : Hp} {s : Shared}
theorem inst_of {C a dd : Addr} {fs : List (Str × V)} (I : Inv X pins σ H s) (e : H a = some (EXO C a (some dd))) (ed : XD H dd fs) :
    ∃ (oe od : Obj) (mA : Str → Option Value), PySem.W.InstAt s.heap a oe C (some od) ∧ (∀ n, PySem.W.lookIn n od = some (mA n)) ∧ ∀ f, RelO (fs.lookup f) (mA f) := by
  obtain ⟨oe, vs, ha, hz, hd⟩ := EXO.get I.hok e
  obtain ⟨mA, hns, rel⟩ := ed.get I.hok
  obtain ⟨od, ho, hl⟩ := lookIn_ns hns
  exact ⟨oe, od, mA, ⟨ha, hz.1, by unfold PySem.W.notCls; rw [hd] <;> rfl, by rw [hz.2]; exact ho⟩, hl, rel⟩
/-- e.n, e an error of the program's own -/
def tEf (K : PySem.W.Frag) (n : Str) (te : TE) : TE := fun σ H Q => te σ H fun x H1 => ∃ (a C dd : Addr) (fs : List (Str × V)) (v : V), x = .ref a ∧ ExcT K C ∧ PySem.W.findIn K (.ref C) n = some none ∧ H1 a = some (EXO C a (some dd)) ∧ XD H1 dd fs ∧ fs.lookup n = some v ∧ Q v H1
theorem pe_ef {e : Expr} {te : TE} {pos : Pos} {n : Str} (he : PE X e te) (hb : attributeBase e n X.env (eval e X.env) = eval e X.env := by rfl) : PE X (.Attribute e n pos) (tEf X.K n te) := by
  refine ⟨fun pins s σ H Q I h => attr_of hb (thn (he.run pins s σ H _ I h) fun u s1 hh => ?_)⟩
  obtain ⟨x, H1, I1, rx, a, C, dd, fs, v, ex, T, hno, ea, ed, l, q⟩ := hh
  subst ex
  obtain rfl : u = Value.ref a := rx
  obtain ⟨oe, od, mA, J, hl, hr⟩ := inst_of I1 ea ed
  obtain ⟨z, hz, rz⟩ := RelO.some_of (v := v) (o := mA n) (by rw [← l]; exact hr n)
  exact HandSPX.exc_get I1.kIn J T.ga T.gg T.be (PySem.W.findObj_own T.hd hno rfl (by rw [hl, hz])) (handed_of rz) ⟨v, H1, I1.tok _, rz, q⟩

/-- C(e, ..) as a value: a new error -/
def tOexV (C : Addr) (sp : Sp) (dvs : List V) (ta : TA) : TE := fun σ H Q => ta σ H fun vs H1 => vs.length ≤ 1000 ∧ ∀ a, H1 a = none → sp (.ref a :: (vs ++ dvs)) (upd H1 a (exo a C none))
  (fun v H2 => v = .non ∧ ∃ d, H2 a = some (exo a C (some d)) ∧ Q (.ref a) (upd H2 a (EXO C a (some d)))) (fun _ _ _ => False)
theorem retrack {C a d : Addr} (I : Inv X pins σ H s) (e : H a = some (exo a C (some d))) : Inv X pins σ (upd H a (EXO C a (some d))) s := by
  obtain ⟨t1, ha⟩ := exo_at I.hok e
  have J := I.write (t' := s.toks) (h' := s.heap) (x := a) (e := a) (o := EXO C a (some d)) (by rw [e]; exact True.intro) (.inl rfl) (fun _ _ _ q => q) ⟨_, ha⟩ (exo_okE ha ⟨rfl, rfl⟩ rfl)
  exact J
theorem pe_oex {cx : CXT} {x : Str} {C fI : Addr} {k : Nat} {fd : FuncData} {ps : List Str} {sp : Sp} {ds : List Value} {dvs : List V} {e : Expr} {es : List Expr} {ta : TA} {p pos : Pos} (T : OexC X.K C) (iC : PySem.W.findIn X.K (.ref C) "__init__" = some (some (.ref fI)))
    (tI : PySem.W.typeIn X.K (.ref fI) = some (.type "function")) (F1 : FnOk X.prog X.w X.K X.mg X.base cx k fI fd ps sp) (hr : Room (k + 1) X.A) (hb : Binds X.K fd ps ds) (hd : Vals dvs ds) (hx : Passes cx X (fun _ _ _ => False)) (hg : Gl X x)
    (hm : X.mg x = some (.ref C)) (ha : PA X (e :: es) ta) (hdb : (x == ("__debug__" : Str)) = false := by decide) (he : starEach (e :: es) X.env = (false, eval e X.env) :: starEach es X.env := by rfl) (hpl : (backTo pos (starEach es X.env)).any (·.1) = false := by rfl) :
    PE X (.Call (.Name x p) (e :: es) [] pos) (tOexV C sp dvs ta) := by
  refine ⟨fun pins s σ H Q I h => ?_⟩
  obtain ⟨nm, q, N, bs, bm, sn, sub, ab, col, dd, k0, k1, k2, k3, k5, hC, hbm⟩ := T.cls
  refine wpAny_Call_Name_kw (ld_glob I hg hm ?_ hdb)
  refine PySem.W.callWith_K (h₀ := X.base) I.ok.mod.kin T.kC (thn (ha.run pos pins s σ H _ I h) fun us s1 ⟨vs, H1, I1, r1, hz, q1⟩ => ⟨I1.kIn, ?_⟩) he hpl
  show wpAny _ _ (call (.ref C) us) _ _ _
  obtain ⟨hp, g, dr, tk, os⟩ := s1
  obtain ⟨a, hA⟩ : ∃ a, a = hp.objs.size + 1 := ⟨_, rfl⟩
  have hsz : hp.objs.size ≤ a := by rw [hA]; exact Nat.le_succ _
  have hq := q1 a (I1.hok.fresh hsz)
  have kk : ∀ b o, hp.get? b = some o → ((hp.push (PySem.W.kdv_tup us)).push (PySem.HandSPX.excO C hp.objs.size)).get? b = some o := fun b o e => Heap.get?_push_of_some _ (Heap.get?_push_of_some _ e)
  have hget : ((hp.push (PySem.W.kdv_tup us)).push (PySem.HandSPX.excO C hp.objs.size)).get? a = some (PySem.HandSPX.excO C hp.objs.size) := by rw [hA]; heap_get
  have I2 : Inv X pins σ (upd H1 a (exo a C none)) ⟨(hp.push (PySem.W.kdv_tup us)).push (PySem.HandSPX.excO C hp.objs.size), g, dr, tk, os⟩ :=
    I1.laid (t' := tk) (a := a) (o := exo a C none) (h' := (hp.push (PySem.W.kdv_tup us)).push (PySem.HandSPX.excO C hp.objs.size)) kk hsz (exo_ok hget)
  have r2 : Vals (V.ref a :: (vs ++ dvs)) (Value.ref a :: (us ++ ds)) := .cons rfl (r1.append hd)
  have hl : (Value.ref a :: us ++ ds).length = ps.length := by
    have e := r2.length
    rw [F1.len _ _ _ _ hq] at e
    exact e.symm
  have hus : us.length ≤ sizeLine := by
    rw [← Paired.length r1, sizeLine_eq]
    omega
  have core := F1.run _ X.stack _ _ ⟨Value.ref a :: us, []⟩ (Value.ref a :: (us ++ ds)) _ _ (fun _ _ _ => False) (hr.make C us []) (I2.env0.make C us []) (hb _ (Value.ref a :: us) I2.kIn hl) r2 hq
  rw [hA] at core
  refine wpAny_call (PySem.HandSPX.call_own F.excBase_ValueError (fun Y => PySem.HandSPX.refsVE_contains Y bm hbm) (I1.kIn _ _ hC) (PySem.W.looks_findIn I1.kIn iC) (fun self => PySem.W.bind_fn I1.kIn self tI) hus (codeAny_mono core fun r s' hq' => ?_))
  rw [← hA] at hq' ⊢
  cases r with
  | error er => exact hx pins σ _ _ er s' I2 hq'
  | ok fl =>
    cases fl with
    | ret u =>
      obtain ⟨v, H2, os2, bare2, un2, hok2, rv, ev, d, ea, q2⟩ := hq'
      subst ev
      have J : Inv X pins σ H2 s' := I2.call' (ch := []) os2 un2 hok2 bare2 (fun _ z => nomatch z)
      exact ⟨rv, .ref a, _, retrack J ea, rfl, q2⟩
    | next => exact False.elim hq'
    | brk => exact False.elim hq'
    | cont => exact False.elim hq'
end
end KZ
end

section
set_option Elab.async false
set_option linter.all false
set_option maxRecDepth 100000
set_option maxHeartbeats 4000000
/-! a caught error that is kept: try: .. except x as n: m = n -/
namespace KZ
open PySem PySem.Spec PyProof.Rows L2
section
variable {X : Cx} {pins : List (Addr × Obj)} {σ : L2.St} {H : Hp} {s : Shared}
/-- an object of ours that isn't tracked yet, an error, is tracked from here on -/
theorem track {a C : Addr} {d : Option Addr} {oe : Obj} {vs : Array Value} (I : Inv X pins σ H s) (ha : s.heap.get? a = some oe) (hz : Zc (.ref C) d oe) (hd : oe.data = .fields vs) (na : H a = none)
    (n0 : X.s_0.heap.get? a = none) (np : ∀ p ∈ X.pn ++ pins, p.1 ≠ a) (nL : a ≠ X.env.locals) : Inv X pins σ (upd H a (EXO C a d)) s := by
  have nea : ∀ {b : Addr} {o : HO}, H b = some o → b ≠ a := fun {b o} q => ne_of_none q na
  have ne0 : ∀ {b : Addr} {o : Obj}, X.s_0.heap.get? b = some o → b ≠ a := fun {b o} q z => by
    rw [z, n0] at q
    cases q
  refine ⟨I.ok, I.os, I.bare, ⟨I.base.keep, I.base.slot, fun b o q n hb => ?_, I.base.there, fun b xs q => ?_, fun b o u q => ?_, fun b ps q => ?_⟩, I.loc, I.cell, ?_, fun x c e => ?_, fun p hp => ?_, fun b o q => ?_, I.len⟩
  · rw [upd_ne (ne0 q)]
    exact I.base.free b o q n hb
  · have z := I.base.tups b xs q
    rw [upd_ne (nea z)]
    exact z
  · have z := I.base.frzs b o u q
    rw [upd_ne (nea z)]
    exact z
  · obtain ⟨m, z⟩ := I.base.tbls b ps q
    exact ⟨m, by rw [upd_ne (nea z)]; exact z⟩
  · rw [upd_ne (Ne.symm nL)]
    exact I.free
  · obtain ⟨v, oc, ho, hc⟩ := I.cell x c e
    have nc : c ≠ a := fun z => by
      rw [z, ha] at ho
      cases ho
      rw [hd] at hc
      cases hc
    rw [upd_ne nc]
    exact I.freeC x c e
  · obtain ⟨h1, h2, h3⟩ := I.pin p hp
    exact ⟨h1, by rw [upd_ne (np p hp)]; exact h2, h3⟩
  · by_cases hb : b = a
    · subst hb
      rw [upd_same] at q
      cases q
      exact exo_okE ha hz hd
    · rw [upd_ne hb] at q
      exact (I.hok b o q).stay (fun _ _ _ z => z) (fun c z => by rw [upd_ne (nea z)]; exact z) fun c xs z => by rw [upd_ne (nea z)]; exact z

/-- what the clause wishes of an error of the body: n is slot i, m slot j -/
def wKeep (K : PySem.W.Frag) (c : Value) (i j : Nat) (Wo : WX) (D : Ends) : WX := fun cls d σ H =>
  ∃ C, cls = .ref C ∧ ∃ b, PySem.W.exmOne K cls c = some b ∧ (b = true → ∀ a, H a = none → D.nx (((σ.set i (some (.ref a))).set j (some (.ref a))).set i none) (upd H a (EXO C a d))) ∧ (b = false → Wo cls d σ H)
variable {x n m : Str} {c : Value} {i j : Nat} {body : List Stmt} {np np2 mp ap pos pos' : Pos} {tb : WX → TS} {Wo : WX}
theorem ps_try_keep (hs : X.stack = X.env :: X.outer) (hf : X.env.frame = some X.env.locals) (hex : X.ex = []) (hN : X.N.Nodup) (hi : X.N[i]? = some n) (hln : X.env.kindOf n = some .local) (hj : X.N[j]? = some m) (hlm : X.env.kindOf m = some .local)
    (hc : Names X x c) (tk : Takes X Wo) (hsw : swapsWith (.Name n np2) (some (.Name m mp)) ap.line X.env = pure false) (hdn : (n == ("__debug__" : Str)) = false) (hcn : (n == ("__classdict__" : Str)) = false)
    (hb : ∀ (W : WX) (pn : List (Addr × Obj)) (xe : Value → Shared → Prop), Takes (X.tr pn xe) W → PassesOwn (model X.prog X.w) X.A X.env xe → PSs (X.tr pn xe) body (tb W)) :
    PS X (.Try body [.ExceptHandler (some (.Name x np)) (some n) [.Assign [.Name m mp] (.Name n np2) ap] pos'] [] [] pos) (fun D σ H => tb (wKeep X.K c i j Wo D) D σ H) := by
  refine ⟨fun pins s σ H D I h => ?_⟩
  have ok0 := I.ok
  have hfr : X.A.frames = some (X.env :: X.outer) := ok0.frames.trans (congrArg some hs)
  refine wpAny_Try_except ?_
  let Wl := wKeep X.K c i j Wo D
  let hd1 : ExceptHandler := .ExceptHandler (some (.Name x np)) (some n) [.Assign [.Name m mp] (.Name n np2) ap] pos'
  refine wpAny_mono ((hb Wl (X.pn ++ pins) (fun e s₁ => wpAny (model X.prog X.w) X.A (noteFrame e X.env) (fun _ s₂ => wpAny (model X.prog X.w) X.A (setFlight e none) (fun _ s₃ => wpAny (model X.prog X.w) X.A (handleBy e X.env [hd1]) (SP X pins D) X.xe s₃) X.xe s₂) X.xe s₁)
    (fun u s' xx => ?_) PassesOwn.looking).run [] s σ H D (I.toTry _) h) (fun f s1 hsp => ?_) (fun e s1 he => he)
  · obtain ⟨a, B, sI, pins', σ', H', cls, d, rfl, J', nb, up, sky, na, os, ag, C, rfl, b, hb1, hyes, hno⟩ := xx
    have J : Inv X pins σ' H' sI := J'.ofTry ok0
    have sky' : Sky B (X.env :: X.outer) a (Zc (.ref C) d) X.env.locals s'.heap := hs ▸ sky
    show wpAny (model X.prog X.w) X.A (noteFrame (.ref a) X.env) _ _ _
    refine Sky.land Zc.steady hfr hf sky' fun h3 fl3 up3 => ?_
    have J3 : Inv X pins σ' H' { s' with heap := h3 } := J.landed nb fl3.1 (up.trans up3) os ag
    obtain ⟨oe3, vs3, he3, hz3, hd3⟩ := fl3.there
    have nfr : a ∉ frs (X.env :: X.outer) := fun hm => by
      obtain ⟨_, o', e', hnf⟩ := fl3.2.2.1.mem hm
      rw [he3] at e'
      cases e'
      exact hnf _ hd3
    have nL : a ≠ X.env.locals := fun z => nfr (List.mem_filterMap.mpr ⟨X.env, List.mem_cons_self, by rw [hf, z]⟩)
    have nF : a ∉ X.fs := fun hm => by
      obtain ⟨ev, hev, q⟩ := List.mem_filterMap.mp hm
      exact nfr (List.mem_filterMap.mpr ⟨ev, List.mem_cons_of_mem _ hev, q⟩)
    have nst : a ∉ frs X.stack := by rw [hs]; exact nfr
    have nB : B.get? a = none := fl3.2.1
    have nI : sI.heap.get? a = none := by
      cases q : sI.heap.get? a with
      | none => rfl
      | some o =>
        have z := nb a o q nst
        rw [nB] at z
        cases z
    have n0 : X.s_0.heap.get? a = none := by
      cases q : X.s_0.heap.get? a with
      | none => rfl
      | some o =>
        obtain ⟨o', z⟩ := J.base.there a o q (by rw [hex]; exact fun z => nomatch z)
        rw [nI] at z
        cases z
    have npin : ∀ p ∈ X.pn ++ pins, p.1 ≠ a := fun p hp z => by
      have q := (J.pin p hp).1
      rw [z, nI] at q
      cases q
    have S3 := J3.suite he3 hd3 na nL nF
    refine wpAny_handleBy_cons (codeAny_handlers_test ?_) (by intro q; cases q)
    have LT : PySem.W.Looks (model X.prog X.w) h3 (typeOf (.ref a)) (.ref C) := fun A Q E s k q => wpAny_typeOf_ref (k _ _ he3) (by rw [hz3.1]; exact q)
    have LM := PySem.W.exm_one (M := model X.prog X.w) (J3.kIn) LT hb1
    have test : ∀ {Q : Value → Shared → Prop} {E : Value → Shared → Prop}, Q c { s' with heap := h3 } → wpAny (model X.prog X.w) (X.A.mark (some (.ref a))) (eval (.Name x np) X.env) Q E { s' with heap := h3 } := fun {Q E} q => by
      rcases hc with ⟨hg, hdbg, hm' | ⟨hm', hv, hnn⟩⟩
      · exact ld_glob (X := X.suite a ((a, oe3) :: (X.pn ++ pins))) S3 hg hm' q hdbg
      · exact ld_blt (X := X.suite a ((a, oe3) :: (X.pn ++ pins))) S3 hg hm' hv q hnn hdbg
    refine test (LM.here ?_)
    cases b with
    | true =>
      refine codeAny_handlers_suite_as (HandSPX.lands_againZ fl3 fun h4 fl4 up4 => ?_)
      have J4 : Inv X pins σ' H' { s' with heap := h4 } := J.landed nb fl4.1 ((up.trans up3).trans up4) os ag
      obtain ⟨oe4, vs4, he4, hz4, hd4⟩ := fl4.there
      have S4 := J4.suite he4 hd4 na nL nF
      have hi' : i < σ'.length := by rw [J4.len]; exact (List.getElem?_eq_some_iff.mp hi).1
      refine store_ok (X := X.suite a ((a, oe4) :: (X.pn ++ pins))) (v := .ref a) S4 hN hi (.inl hln) rfl (fun s5 S5 => ?_) (.inr hln)
      have R := pss_one (X := X.suite a ((a, oe4) :: (X.pn ++ pins))) (ps_asg (X := X.suite a ((a, oe4) :: (X.pn ++ pins))) (pos := ap) (pe_var (i := i) (pos := np2) hi (.inl hln) hdn hcn) (pg_name (i := j) (pos := mp) hN hj (.inl hlm) (.inr hlm)) hsw)
      let D' : Ends := { nx := fun σ6 H6 => σ6 = (σ'.set i (some (.ref a))).set j (some (.ref a)) ∧ H6 = H', rt := fun _ _ => False }
      refine wpAny_mono (R.run [] s5 _ H' D' S5 ?_) (fun f s6 hsp => ?_) (fun _ _ z => False.elim z)
      · exact ⟨.ref a, List.getElem?_set_self hi', rfl, rfl⟩
      · cases f with
        | next =>
          obtain ⟨σ6, H6, S6, rfl, rfl⟩ := hsp
          have he6 := (S6.pin (a, oe4) (List.mem_append_left _ List.mem_cons_self)).1
          have T6 := track (S6.unsuite ok0) he6 hz4 hd4 na n0 npin nL
          exact gone_ok T6 hN hi hln fun s7 J7 => ⟨_, _, J7, hyes rfl a na⟩
        | brk => obtain ⟨_, _, _, z⟩ := hsp; exact z.elim
        | cont => obtain ⟨_, _, _, z⟩ := hsp; exact z.elim
        | ret u => obtain ⟨_, _, _, _, _, z⟩ := hsp; exact z.elim
    | false =>
      show wpAny _ X.A (handleBy (.ref a) X.env []) _ _ _
      refine wpAny_handleBy_nil ?_
      obtain ⟨k1, k2, k3, oe, vs, T, oT, ts', he, hz, hd, h1, hr⟩ := id fl3
      unfold PySem.passOn
      refine wpAny_bind (wpAny_field he hd h1 ?_)
      rw [if_neg (show ¬ ((Value.ref T == Value.none) = true) from by simp)]
      have fin : wpAny (model X.prog X.w) X.A (setFlight (.ref a) X.env.frame) (fun _ s4 => wpAny (model X.prog X.w) X.A (throw (.ref a) : Sem Flow) (SP X pins D) X.xe s4) X.xe { s' with heap := h3 } := by
        rw [hf]
        refine HandSPX.setFlight_upZ fl3 fun h4 hh4 up4 => wpAny_throw (tk _ _ ⟨a, B, sI, pins, σ', H', .ref C, d, rfl, J, nb, (up.trans up3).trans up4, .inr (.inr (by rw [hs]; exact hh4)), na, os, ag, hno rfl⟩)
      first
        | exact wpAny_bind (wpAny_pure (wpAny_bind fin))
        | exact wpAny_bind fin
  · cases f with
    | next =>
      obtain ⟨σ', H', J', q⟩ := hsp
      exact wpAny_execs_nil ⟨σ', H', J'.ofTry ok0, q⟩
    | ret u =>
      obtain ⟨v, σ', H', J', r, q⟩ := hsp
      exact ⟨v, σ', H', J'.ofTry ok0, r, q⟩
    | _ =>
      obtain ⟨σ', H', J', q⟩ := hsp
      exact ⟨σ', H', J'.ofTry ok0, q⟩

/-- isinstance(e, c), e a known error of the program's own -/
def rIsX (K : PySem.W.Frag) : List V → Hp → VK → Prop := fun xs H Q => ∃ (a C dd : Addr) (fs : List (Str × V)) (c : V) (u : Value) (b : Bool), xs = [.ref a, c] ∧ ClsV c u ∧ ExcT K C ∧ H a = some (EXO C a (some dd)) ∧ XD H dd fs ∧ PySem.W.kitOne K (.ref C) u = some b ∧ Q (.bl b) H
theorem call_isX : CallR X (.builtin "isinstance") (rIsX X.K) := by
  intro pins s σ H xs us Q I r h
  obtain ⟨a, C, dd, fs, c, u, b, rfl, k, T, ea, ed, e, q⟩ := h
  obtain ⟨u1, u2, rfl, r1, r2⟩ := vals2 r
  have e2 := k.eq r2
  subst e2
  obtain rfl : u1 = Value.ref a := r1
  obtain ⟨oe, od, mA, J, _, _⟩ := inst_of I ea ed
  have hcl : (PySem.W.clsIn X.K C).isSome = true := by
    obtain ⟨cd, hC, _⟩ := PySem.W.any_some T.hd
    rw [hC]
    rfl
  exact PySem.W.kia_one (PySem.W.kitx_exc hcl T.ga T.gg T.be T.kl T.ge T.tk T.mo) I.kIn J e (fun z => nomatch z) fun tk => ⟨.bl b, H, I.tok tk, rfl, q⟩
end
end KZ
end

section
set_option Elab.async false
set_option linter.all false
set_option maxRecDepth 100000
set_option maxHeartbeats 4000000
/-! calls with keywords alone: of defs, of own errors -/
namespace PySem
namespace KZ5
open PySem.HandSPX Builtin Builtin.ObjectAttr
section
variable {M : Model} {A : Around} {E : Value → Shared → Prop} {h : Heap} {g : Array GenState} {d : Drawn} {t : Nat} {os : OsState} {prog : Program} {w : World} {R : Result → Shared → Prop}
variable {nm q : Str} {C N : Addr} {bs bm bmB : List Value} {hdct : Bool} {sn : List Str} {sub : List Value} {ab : Bool} {col : Option Bool} {dd : Option Addr} {k0 k1 k2 k3 k5 : Option Value} {B newId initId : String} {kws : List (Str × Value)}
theorem check_newK (F : ExcBaseFacts B newId initId bmB) (hT : ∀ X : String, bm.contains (.type X) = bmB.contains (.type X)) {rest : List Value} {Q : Unit → Shared → Prop}
    (hC : h.get? C = some (excClassObj nm q C N bs bm hdct sn sub ab col dd k0 k1 k2 k3 k5 newId)) (hq : Q () ⟨h, g, d, t, os⟩) : wpAny M A (checkBuiltinCall newId ⟨.ref C :: rest, kws⟩) Q E ⟨h, g, d, t, os⟩ := by
  have hco : (Value.ref C :: bm).contains (.type B) = true := by rw [List.contains_cons, hT, F.hasB, Bool.or_true]
  have hst := F.noStar
  simp only [checkBuiltinCall, F.newKind, F.newSplit, F.newRow]
  repeat (first | refine wpAny_loadPart_at hC ?_ | (refine wpAny_isSubtype_exc hC ?_; rw [hco]) | refine wpAny_staticBase_exc hC ?_ | refine wpAny_madeBy_exc hC ?_ | simp only [bne_self_eq_false, Bool.false_eq_true, if_false] | wp_step)
  exact hq
theorem new_K (F : ExcBaseFacts B newId initId bmB) (hT : ∀ X : String, bm.contains (.type X) = bmB.contains (.type X))
    (hC : h.get? C = some (excClassObj nm q C N bs bm hdct sn sub ab col dd k0 k1 k2 k3 k5 newId))
    (hq : R (.ok (.ret (.ref (h.objs.size + 1)))) ⟨(h.push (W.kdv_tup [])).push (excO C h.objs.size), g, d, t, os⟩) : codeAny (model prog w) A (.builtin newId ⟨[.ref C], kws⟩) R ⟨h, g, d, t, os⟩ := by
  have hends := F.ends
  have hc1 : (Value.ref C :: bm).contains (.type B) = true := by rw [List.contains_cons, hT, F.hasB, Bool.or_true]
  have hc2 : (Value.ref C :: bm).contains (.type "AttributeError") = false := by rw [List.contains_cons, hT, F.noAttr]; rfl
  have hc3 : (Value.ref C :: bm).contains (.type "NameError") = false := by rw [List.contains_cons, hT, F.noName]; rfl
  refine codeAny_builtinAt F.entry ?_
  unfold Builtin.«BaseException.__new__»
  refine wpAt_bind ?_
  show wpAt _ _ _ (stack >>= _) _ _ _
  refine wpAt_bind (wpAt_stack fun p below => wpAt_of_wpAny ?_)
  wp_walk
  refine wpAt_of_wpAny ?_
  rw [F.owner]
  repeat (first | with_reducible refine wpAny_madeHere_exc F.canon hC ?_ | with_reducible refine wpAny_loadPart_at hC ?_ | (with_reducible refine wpAny_isSubtype_exc hC ?_; first | rw [hc1] | rw [hc2] | rw [hc3]) | wp_step)
  show R _ _
  rw [Heap.size_push]
  exact hq
theorem type_call_K (F : ExcBaseFacts B newId initId bmB) (hT : ∀ X : String, bm.contains (.type X) = bmB.contains (.type X)) {fI : Addr} {Q : Fin → Shared → Prop}
    (hC : h.get? C = some (excClassObj nm q C N bs bm hdct sn sub ab col dd k0 k1 k2 k3 k5 newId))
    (hi : W.Looks (model prog w) h (typeLookup (.ref C) "__init__") (some (.ref fI))) (hb : ∀ self, W.Looks (model prog w) h (bindSpecial (.ref fI) self) (.ref fI, [self]))
    (hq : codeAny (model prog w) A (.call (.ref fI) ⟨[.ref (h.objs.size + 1)], kws⟩)
      (fun r s' => match r with | .ok (.ret v) => v = .none ∧ Q (.done (.ret (.ref (h.objs.size + 1)))) s' | .ok _ => False | .error e => E e s') ⟨(h.push (W.kdv_tup [])).push (excO C h.objs.size), g, d, t, os⟩) :
    wpAny (model prog w) A (Builtin.«type.__call__» ⟨[.ref C], kws⟩) Q E ⟨h, g, d, t, os⟩ := by
  repeat (first | with_reducible refine wpAny_loadPart_at hC ?_ | with_reducible refine wpAny_madeBy_exc hC ?_ | wp_step)
  refine codeAny_call_builtin_code (Code.quiet_builtin _ F.quiet) (check_newK F hT hC ?_)
  refine new_K F hT hC ?_
  show wpAny _ _ _ _ _ _
  have k : ∀ b o, h.get? b = some o → ((h.push (W.kdv_tup [])).push (excO C h.objs.size)).get? b = some o := fun b o e => Heap.get?_push_of_some _ (Heap.get?_push_of_some _ e)
  have hC2 := k _ _ hC
  have hget : ((h.push (W.kdv_tup [])).push (excO C h.objs.size)).get? (h.objs.size + 1) = some (excO C h.objs.size) := by heap_get
  have hcC : (Value.ref C :: bm).contains (.ref C) = true := by simp
  have i1 := hi.keeps k
  have b1 := (hb (.ref (h.objs.size + 1))).keeps k
  unfold isInstance
  repeat (first | with_reducible refine wpAny_loadPart_at hget ?_ | (with_reducible refine wpAny_isSubtype_exc hC2 ?_; rw [hcC]) | wp_step)
  show wpAny _ _ (typeLookup (.ref C) _) _ _ _
  refine i1.at (wpAny_holding (wpAny_bind (b1.at ?_)))
  refine wpAny_bind (wpAny_call (codeAny_mono hq fun r s' z => ?_))
  rcases r with e | (v | _ | _ | _) <;> first | exact z | exact z.elim | skip
  obtain ⟨rfl, z⟩ := z
  first
    | exact wpAny_pure (wpAny_pure z)
    | (wp_walk; exact z)
theorem check_type_K (hC : h.get? C = some (excClassObj nm q C N bs bm hdct sn sub ab col dd k0 k1 k2 k3 k5 newId)) {Q : Unit → Shared → Prop}
    (hq : Q () ⟨h, g, d, t, os⟩) : wpAny M A (checkBuiltinCall "type.__call__" ⟨[.ref C], kws⟩) Q E ⟨h, g, d, t, os⟩ := by
  have f3 := tc_sub
  have hT : (⟨h, g, d, t, os⟩ : Shared).TypeIs (.ref C) "type" := ⟨_, hC, rfl⟩
  simp only [checkBuiltinCall, tc_kind, tc_split]
  repeat (any_goals (first | assumption | with_reducible refine wpAny_loadPart_at hC ?_ | with_reducible refine wpAny_onRaise ?_ | with_reducible refine wpAny_map ?_ | wp_step))
theorem call_K (F : ExcBaseFacts B newId initId bmB) (hT : ∀ X : String, bm.contains (.type X) = bmB.contains (.type X)) {fI : Addr}
    (hC : h.get? C = some (excClassObj nm q C N bs bm hdct sn sub ab col dd k0 k1 k2 k3 k5 newId))
    (hi : W.Looks (model prog w) h (typeLookup (.ref C) "__init__") (some (.ref fI))) (hb : ∀ self, W.Looks (model prog w) h (bindSpecial (.ref fI) self) (.ref fI, [self]))
    (hq : codeAny (model prog w) (A.under (.builtin "type.__call__" ⟨[.ref C], kws⟩)) (.call (.ref fI) ⟨[.ref (h.objs.size + 1)], kws⟩) (W.InitBack (h.objs.size + 1) R) ⟨(h.push (W.kdv_tup [])).push (excO C h.objs.size), g, d, t, os⟩) :
    codeAny (model prog w) A (.call (.ref C) ⟨[], kws⟩) R ⟨h, g, d, t, os⟩ := by
  have f1 := tc_lookup
  have f2 := tc_bind (.ref C)
  have hTy : (⟨h, g, d, t, os⟩ : Shared).TypeIs (.ref C) "type" := ⟨_, hC, rfl⟩
  refine codeAny_of_tree ?_
  show wpAny _ _ (callAny (.ref C) _) _ _ _
  repeat (any_goals (first | assumption | with_reducible refine wpAny_loadPart_at hC ?_ | wp_step))
  refine ⟨rfl, ?_⟩
  refine codeAny_call_builtin_at (Code.quiet_builtin _ (by decide +kernel)) entry_typeCall (check_type_K hC (type_call_K F hT hC hi hb ?_))
  refine codeAny_mono hq fun r s' z => ?_
  rcases r with e | (v | _ | _ | _) <;> exact z
end
end KZ5
end PySem
namespace KZ
open PySem PySem.Spec PyProof.Rows L2
section
variable {X : Cx} {cx : CXT} {k : Nat} {f C fI : Addr} {fd : FuncData} {ps ks : List Str} {sp : Sp} {E : XK} {x : Str} {p pos : Pos} {kws : List Keyword} {tk : TA} {g : List Value → List Value → List Value} {gV : List V → List V → List V}
/-- f(k = v, ..) -/
theorem pe_callK0 (F : FnOk X.prog X.w X.K X.mg X.base cx k f fd ps sp) (hr : Room k X.A) (hg : Gl X x) (hm : X.mg x = some (.ref f)) (hk : PySem.W.keepIn X.K (.ref f) = true) (hb : KBinds X.K fd ps ks g gV) (hx : Passes cx X E) (hkw : PK X kws tk)
    (hall : (backToKw pos (keywordEach kws X.env)).all (·.1.isSome) = true := by rfl) (hks : (backToKw pos (keywordEach kws X.env)).filterMap (·.1) = ks := by rfl) (hdb : (x == ("__debug__" : Str)) = false := by decide)
    (hpl : ((backTo pos (starEach [] X.env)).any (·.1) || (backToKw pos (keywordEach kws X.env)).any (·.1.isNone)) = false := by rfl) : PE X (.Call (.Name x p) [] kws pos) (tCallK sp gV E tNil tk) :=
  ⟨fun pins s σ H Q I h => wpAny_Call_Name_kw (ld_glob I hg hm (PySem.W.callWith_KW0 (h₀ := X.base) I.ok.mod.kin hk hall (thn (hkw.run pos pins s σ H _ I h) fun ws s2 ⟨zs, H2, I2, rz, q2⟩ => ⟨I2.kIn, by
    rw [hks]
    exact run_fnk (us := []) (vs := []) F hr hb hx I2 .nil rz q2⟩) hpl) hdb)⟩
/-- C(k = v, ..), an own error -/
def tOexK (C : Addr) (sp : Sp) (gV : List V → List V → List V) (tk : TA) : TE := fun σ H Q => tk σ H fun zs H1 => ∀ a, H1 a = none → sp (gV [.ref a] zs) (upd H1 a (exo a C none))
  (fun v H2 => v = .non ∧ ∃ d, H2 a = some (exo a C (some d)) ∧ Q (.ref a) (upd H2 a (EXO C a (some d)))) (fun _ _ _ => False)
theorem pe_oexK0 (T : OexC X.K C) (iC : PySem.W.findIn X.K (.ref C) "__init__" = some (some (.ref fI))) (tI : PySem.W.typeIn X.K (.ref fI) = some (.type "function")) (F1 : FnOk X.prog X.w X.K X.mg X.base cx k fI fd ps sp) (hr : Room (k + 1) X.A)
    (hb : KBinds X.K fd ps ks g gV) (hx : Passes cx X (fun _ _ _ => False)) (hg : Gl X x) (hm : X.mg x = some (.ref C)) (hkw : PK X kws tk)
    (hall : (backToKw pos (keywordEach kws X.env)).all (·.1.isSome) = true := by rfl) (hks : (backToKw pos (keywordEach kws X.env)).filterMap (·.1) = ks := by rfl) (hdb : (x == ("__debug__" : Str)) = false := by decide)
    (hpl : ((backTo pos (starEach [] X.env)).any (·.1) || (backToKw pos (keywordEach kws X.env)).any (·.1.isNone)) = false := by rfl) : PE X (.Call (.Name x p) [] kws pos) (tOexK C sp gV tk) := by
  refine ⟨fun pins s σ H Q I h => ?_⟩
  obtain ⟨nm, q, N, bs, bm, sn, sub, ab, col, dd, k0, k1, k2, k3, k5, hC, hbm⟩ := T.cls
  refine wpAny_Call_Name_kw (ld_glob I hg hm ?_ hdb)
  refine PySem.W.callWith_KW0 (h₀ := X.base) I.ok.mod.kin T.kC hall (thn (hkw.run pos pins s σ H _ I h) fun ws s1 ⟨zs, H1, I1, rz, q1⟩ => ⟨I1.kIn, ?_⟩) hpl
  rw [hks]
  show wpAny _ _ (call (.ref C) [] (ks.zip ws)) _ _ _
  obtain ⟨hp, gg, dr, tk, os⟩ := s1
  obtain ⟨a, hA⟩ : ∃ a, a = hp.objs.size + 1 := ⟨_, rfl⟩
  have hsz : hp.objs.size ≤ a := by rw [hA]; exact Nat.le_succ _
  have hq := q1 a (I1.hok.fresh hsz)
  have kk : ∀ b o, hp.get? b = some o → ((hp.push (PySem.W.kdv_tup [])).push (PySem.HandSPX.excO C hp.objs.size)).get? b = some o := fun b o e => Heap.get?_push_of_some _ (Heap.get?_push_of_some _ e)
  have hget : ((hp.push (PySem.W.kdv_tup [])).push (PySem.HandSPX.excO C hp.objs.size)).get? a = some (PySem.HandSPX.excO C hp.objs.size) := by rw [hA]; heap_get
  have I2 : Inv X pins σ (upd H1 a (exo a C none)) ⟨(hp.push (PySem.W.kdv_tup [])).push (PySem.HandSPX.excO C hp.objs.size), gg, dr, tk, os⟩ :=
    I1.laid (t' := tk) (a := a) (o := exo a C none) (h' := (hp.push (PySem.W.kdv_tup [])).push (PySem.HandSPX.excO C hp.objs.size)) kk hsz (exo_ok hget)
  have r2 := hb.rel (vs := [V.ref a]) (us := [Value.ref a]) (.cons rfl .nil) rz
  have hl : (g [Value.ref a] ws).length = ps.length := by
    rw [← r2.length]
    exact F1.len _ _ _ _ hq
  have core := F1.run _ X.stack _ _ ⟨[Value.ref a], ks.zip ws⟩ (g [Value.ref a] ws) _ _ (fun _ _ _ => False) (hr.make C [] (ks.zip ws)) (I2.env0.make C [] (ks.zip ws)) (hb.to _ [Value.ref a] ws I2.kIn hl) r2 hq
  rw [hA] at core
  refine wpAny_call (PySem.KZ5.call_K F.excBase_ValueError (fun Y => PySem.HandSPX.refsVE_contains Y bm hbm) (I1.kIn _ _ hC) (PySem.W.looks_findIn I1.kIn iC) (fun self => PySem.W.bind_fn I1.kIn self tI) (codeAny_mono core fun r s' hq' => ?_))
  rw [← hA] at hq' ⊢
  cases r with
  | error er => exact hx pins σ _ _ er s' I2 hq'
  | ok fl =>
    cases fl with
    | ret u =>
      obtain ⟨v, H2, os2, bare2, un2, hok2, rv, ev, d, ea, q2⟩ := hq'
      subst ev
      have J : Inv X pins σ H2 s' := I2.call' (ch := []) os2 un2 hok2 bare2 (fun _ z => nomatch z)
      exact ⟨rv, .ref a, _, retrack J ea, rfl, q2⟩
    | _ => exact False.elim hq'
end
end KZ
end

section
set_option Elab.async false
set_option linter.all false
set_option maxRecDepth 100000
set_option maxHeartbeats 4000000
/-! the law's own call, its promise told where no repr is under way, the modules' dict known -/
namespace KZ
open PySem PySem.Spec PyProof.Rows L2

section
variable {P : Program} {w : World} {K : PySem.W.Frag} {mg mb : Str → Option Value} {k : Nat} {fa a : Addr} {cs : List (Addr × Addr)} {fd : FuncData} {x : Str} {sp : Sp} {st : Shared} {vs : List Value} {ns : List Int}
/-- the head's heap, as the law's call wants it -/
structure TopAt (K : PySem.W.Frag) (mg mb : Str → Option Value) (cs : List (Addr × Addr)) (st : Shared) : Prop where
  kin : K.In st.heap
  gl : st.heap.Ns mainGlobals mg
  bl : st.heap.Ns builtinsNs mb
  bb : ∀ x : Str, x ≠ "__name__" → mb x = bootBuiltins x
  lim : st.heap.NoLimit
  mods : ∃ mm, st.heap.Ns sysModules mm
  gens : st.gens = #[]
  tabs : ∀ p ∈ cs, st.heap.get? p.2 = some { cls := .none, data := .fields #[] }
  notK : ∀ p ∈ cs, K.lookup p.2 = none
  code : ∀ p ∈ cs, PySem.W.CodeHd st.heap p.1 p.2
  bm : ∃ (bm : Addr) (ob : Obj), mg "__builtins__" = some (.ref bm) ∧ bm ≠ builtinsNs ∧ st.heap.get? bm = some ob ∧ ob.cls = .type "module" ∧ ob.dict = some builtinsNs ∧ ob.data = .plain
/-- what is tracked at the law's call: the script, where it is no object of the module, and the tables -/
def H0 (K : PySem.W.Frag) (cs : List (Addr × Addr)) (a : Addr) (vs : List Value) (ns : List Int) : Hp := fun b =>
  if b = a ∧ K.lookup a = none then some (.frz { cls := .type "list", data := .seq vs.toArray } (.lst (ns.map V.int))) else if b ∈ cs.map (·.2) then some (.tbl #[]) else none
theorem H0_not {b : Addr} (h1 : b ≠ a) (h2 : b ∉ cs.map (·.2)) : H0 K cs a vs ns b = none := by
  unfold H0
  rw [if_neg (fun z => h1 z.1), if_neg h2]
theorem tabAt (T : TopAt K mg mb cs st) {b : Addr} (hb : b ∈ cs.map (·.2)) : st.heap.get? b = some { cls := .none, data := .fields #[] } ∧ K.lookup b = none := by
  obtain ⟨p, hp, e⟩ := List.mem_map.mp hb
  subst e
  exact ⟨T.tabs p hp, T.notK p hp⟩
theorem notTab (T : TopAt K mg mb cs st) (ha : st.heap.get? a = some { cls := .type "list", data := .seq vs.toArray }) : a ∉ cs.map (·.2) := fun z => by
  have q := (tabAt T z).1
  rw [ha] at q
  cases q
theorem H0_tab (T : TopAt K mg mb cs st) (ha : st.heap.get? a = some { cls := .type "list", data := .seq vs.toArray }) {b : Addr} (hb : b ∈ cs.map (·.2)) : H0 K cs a vs ns b = some (.tbl #[]) := by
  unfold H0
  rw [if_neg (show ¬ (b = a ∧ K.lookup a = none) from fun z => notTab T ha (z.1 ▸ hb)), if_pos hb]
/-- an object that is neither a list nor an empty table is not tracked -/
theorem H0_free (T : TopAt K mg mb cs st) (ha : st.heap.get? a = some { cls := .type "list", data := .seq vs.toArray }) {b : Addr} {o : Obj} (e : st.heap.get? b = some o) (h1 : ∀ vs n, o.data ≠ .seq vs n) (h2 : o.data ≠ .fields #[]) : H0 K cs a vs ns b = none := by
  refine H0_not (fun z => ?_) fun z => ?_
  · rw [z, ha] at e
    cases e
    exact h1 _ _ rfl
  · rw [(tabAt T z).1] at e
    cases e
    exact h2 rfl
theorem H0_ok (T : TopAt K mg mb cs st) (ha : st.heap.get? a = some { cls := .type "list", data := .seq vs.toArray }) (hi : IntsAre vs ns) (hl : ns.length ≤ sizeLine) : HOk P w (H0 K cs a vs ns) st.heap := fun b u z => by
  unfold H0 at z
  split at z
  · rename_i q
    cases z
    rw [q.1]
    exact ⟨ha, by rw [List.length_map]; exact hl, vs, _, vals_ints hi, ha⟩
  · split at z
    · rename_i q
      cases z
      exact (tabAt T q).1
    · cases z
theorem H0_sq (T : TopAt K mg mb cs st) (ha : st.heap.get? a = some { cls := .type "list", data := .seq vs.toArray }) (hi : IntsAre vs ns) (hl : ns.length ≤ sizeLine) : SqL K (H0 K cs a vs ns) a (ns.map V.int) := by
  cases hk : K.lookup a with
  | none => exact .inl (.inr ⟨_, by unfold H0; rw [if_pos ⟨rfl, hk⟩]⟩)
  | some o =>
    have e := T.kin a o hk
    rw [ha] at e
    cases e
    exact .inr ⟨_, vs.toArray, _, hk, rfl, rfl, rfl, by rw [List.size_toArray, hi.length]; exact hl, by simpa using vals_ints hi⟩
theorem top_base (T : TopAt K mg mb cs st) (ha : st.heap.get? a = some { cls := .type "list", data := .seq vs.toArray }) :
    L2.Mod K mg (hidT st.heap (H0 K cs a vs ns)) ∧ ModsD (hidT st.heap (H0 K cs a vs ns)) ∧ ∀ p ∈ cs, LamX.TabB (hidT st.heap (H0 K cs a vs ns)) mg p.1 p.2 := by
  have dk : ∀ {b : Addr} {o : Obj} {es : Array DictEntry} {ep : Nat}, st.heap.get? b = some o → o.data = .dict es ep → (hidT st.heap (H0 K cs a vs ns)).get? b = some o := fun e d =>
    hidT_get e (H0_free T ha e (fun _ _ z => by rw [d] at z; cases z) fun z => by rw [d] at z; cases z)
  have nk : ∀ {b : Addr} {m : Str → Option Value}, st.heap.Ns b m → (hidT st.heap (H0 K cs a vs ns)).Ns b m := fun ⟨o, es, ep, e, d, r⟩ => ⟨o, es, ep, dk e d, d, r⟩
  have kin : K.In (hidT st.heap (H0 K cs a vs ns)) := fun b o e => hidT_get (T.kin b o e) (by
    unfold H0
    rw [if_neg (fun z => by rw [z.1, z.2] at e; cases e), if_neg (fun z => by rw [(tabAt T z).2] at e; cases e)])
  obtain ⟨mm, om, es, ep, em, dm, _⟩ := T.mods
  obtain ⟨mc, l1, l2⟩ := T.lim
  refine ⟨⟨kin, nk T.gl, ⟨mb, nk T.bl, T.bb⟩, mc, nk l1, l2⟩, ⟨om, es, ep, dk em dm, dm⟩, fun p hp => ⟨?_, ?_, fun z => ?_⟩⟩
  · obtain ⟨o, us, file, tf, flags, tg, inF, text, tt, e1, r1, r2, r3, rr⟩ := T.code p hp
    refine ⟨o, us, file, tf, flags, tg, inF, text, tt, hidT_get e1 (H0_free T ha e1 (fun _ _ z => by rw [r2] at z; cases z) fun z => ?_), r1, r2, r3, rr⟩
    rw [r2] at z
    cases z
    simp at r3
  · obtain ⟨bm, ob, b1, b2, b3, b4, b5, b6⟩ := T.bm
    have g1 : bm ≠ mainGlobals := fun q => by
      obtain ⟨o, es, ep, e, hd, _⟩ := T.gl
      rw [q, e] at b3
      cases b3
      rw [hd] at b6
      cases b6
    have g2 : bm ≠ p.2 := fun q => by
      rw [q, T.tabs p hp] at b3
      cases b3
      cases b6
    exact ⟨bm, ob, b1, b2, g1, g2, hidT_get b3 (H0_free T ha b3 (fun _ _ z => by rw [b6] at z; cases z) fun z => by rw [b6] at z; cases z), b4, b5, b6⟩
  · obtain ⟨o, es, ep, e, hd, _⟩ := T.gl
    rw [z, T.tabs p hp] at e
    cases e
    cases hd
/-- THE CALL -/
theorem law_callG (T : TopAt K mg mb cs st) (ha : st.heap.get? a = some { cls := .type "list", data := .seq vs.toArray }) (hi : IntsAre vs ns) (hl : ns.length ≤ sizeLine) (hr : Room k callerA)
    (F : ∀ base : Heap, K.In base → base.Ns mainGlobals mg → ModsD base → (∀ p ∈ cs, LamX.TabB base mg p.1 p.2) → FnG P w K mg base CX0 k fa fd [x] sp) (hbind : ∀ (s : Shared) (u : Value), BindsTo s fd ⟨[u], []⟩ [(x, u)])
    (hsp : ∀ H : Hp, (∀ p ∈ cs, H p.2 = some (.tbl #[])) → SqL K H a (ns.map V.int) → sp [.ref a] H (fun v _ => v = .bl true) fun _ _ _ => False) :
    codeAny (model P w) callerA (.call (.ref fa) ⟨[.ref a], []⟩) (fun r s' => r = .ok (.ret (.bool true)) ∧ OldK st.heap s'.heap ∧ s'.os = st.os ∧ AllBare s'.gens) st := by
  obtain ⟨hM, hD, hT⟩ := top_base (vs := vs) (ns := ns) T ha
  have ok : HOk P w (H0 K cs a vs ns) st.heap := H0_ok T ha hi hl
  have e0 : Env0 P w K mg (hidT st.heap (H0 K cs a vs ns)) callerA [] st (H0 K cs a vs ns) := ⟨rfl, hM, fun b o e => of_hidT e, Nat.le_of_eq (hidT_size _ _), trivial, (fun b hb => nomatch hb), ok, .of_eq T.gens⟩
  refine codeAny_mono ((F _ hM.kin hM.glob hD hT).runG callerA [] st _ ⟨[.ref a], []⟩ [.ref a] [.ref a] _ _ rfl hr e0 (hbind st (.ref a)) (.cons rfl .nil) (hsp _ (fun p hp => H0_tab T ha (List.mem_map.mpr ⟨p, hp, rfl⟩)) (H0_sq T ha hi hl))) fun r s' h => ?_
  cases r with
  | error e => exact (show False from h).elim
  | ok fl =>
    cases fl with
    | ret u =>
      obtain ⟨v, H', os, bare, un, ok', r', q⟩ := h
      have q' : v = .bl true := q
      subst q'
      obtain rfl : u = Value.bool true := r'
      have same : ∀ b o, b ∉ cs.map (·.2) → st.heap.get? b = some o → s'.heap.get? b = some o := fun b o nb e => by
        cases z : H0 K cs a vs ns b with
        | none => exact un.keep b o e z (fun y => nomatch (show b ∈ ([] : List Addr) from y)) (fun y => nomatch y)
        | some u =>
          have zz := z
          unfold H0 at zz
          by_cases hba : b = a ∧ K.lookup a = none
          · rw [if_pos hba] at zz
            cases zz
            obtain ⟨e1, _⟩ := ok b _ z
            obtain ⟨e2, _⟩ := ok' b _ (un.frzs b _ _ z)
            rw [e] at e1
            cases e1
            exact e2
          · rw [if_neg hba, if_neg nb] at zz
            cases zz
      have grown : ∀ p ∈ cs, ∃ more : Array Value, s'.heap.get? p.2 = some { cls := .none, data := .fields more } := fun p hp => by
        obtain ⟨more, z⟩ := un.tbls p.2 #[] (H0_tab T ha (List.mem_map.mpr ⟨p, hp, rfl⟩))
        exact ⟨_, ok' p.2 _ z⟩
      refine ⟨rfl, ⟨fun b o e => ?_, fun b o e => ?_⟩, os, bare⟩
      · by_cases hb : b ∈ cs.map (·.2)
        · obtain ⟨p, hp, ep⟩ := List.mem_map.mp hb
          obtain ⟨more, hm⟩ := grown p hp
          subst ep
          rw [T.tabs p hp] at e
          cases e
          exact .inr (.inl ⟨((T.code p hp).tab (T.tabs p hp)).isCodeTable, rfl, #[], more, rfl, by rw [Array.empty_append]; exact hm⟩)
        · exact .inl (same b o hb e)
      · by_cases hb : b ∈ cs.map (·.2)
        · obtain ⟨p, hp, ep⟩ := List.mem_map.mp hb
          obtain ⟨more, hm⟩ := grown p hp
          subst ep
          rw [T.tabs p hp] at e
          cases e
          exact ⟨_, hm⟩
        · exact ⟨o, same b o hb e⟩
    | _ => exact False.elim h
end
/-- what is known of the law's promise at the head's heap h -/
def LawG (l : PySem.W.OpenLaw) (w : World) (K : PySem.W.Frag) (k n : Nat) (x : Str) (mg : Str → Option Value) (fa : Addr) (h : Heap) : Prop :=
  ∃ (fd : FuncData) (cs : List (Addr × Addr)) (sp : Sp), (∀ p ∈ cs, h.get? p.2 = some { cls := .none, data := .fields #[] }) ∧ (∀ p ∈ cs, K.lookup p.2 = none) ∧ (∀ p ∈ cs, PySem.W.CodeHd h p.1 p.2) ∧ (∀ (s : Shared) (u : Value), BindsTo s fd ⟨[u], []⟩ [(x, u)]) ∧
    (∀ (H : Hp) (a : Addr) (ns : List Int), ns.length ≤ n → (∀ z ∈ ns, Builtin.Int.intBits z ≤ 1048576) → (∀ p ∈ cs, H p.2 = some (.tbl #[])) → SqL K H a (ns.map V.int) → sp [.ref a] H (fun v _ => v = .bl true) fun _ _ _ => False) ∧
    ∀ base : Heap, K.In base → base.Ns mainGlobals mg → ModsD base → (∀ p ∈ cs, LamX.TabB base mg p.1 p.2) → FnG l.prog w K mg base CX0 k fa fd [x] sp
theorem walkG {l : PySem.W.OpenLaw} {n k : Nat} {q : Program} {loose : List Str} {XP : (Str → Option Value) → Heap → Prop} {YP : World → Heap → Prop} {d : DefRec} {K : Params → PySem.W.Frag} {x : Str}
    (hn : l.most = some n) (hn2 : n ≤ sizeLine) (hdf : d.params.defaults = []) (hr : Room k callerA) (hno : importsNone q = true) (hY : ∀ (w : World) (h : Heap), YP w h → (K w.params).In h)
    (F : ∀ (w : World) (mg : Str → Option Value) (fa : Addr) (h : Heap), YP w h → (K w.params).In h → h.Ns mainGlobals mg → mg d.name = some (.ref fa) → LawG l w (K w.params) k n x mg fa h) :
    PySem.W.WalkO q loose XP YP l.row.toRowW d [] (fun f vs => PySem.call f vs) := by
  refine Att.attach_callB hn hdf fun w s₀ s₁ mg mb fa o pm cd doc a vs ns G Y ho hd hcd hmg hobj hints hlen hbits hg => ?_
  have kx := hY w _ Y
  obtain ⟨fd, cs, sp, hT, nT, C, hb, hsp, hF⟩ := F w mg fa _ Y kx G.T.g hmg
  have ms := (G.T.seer hno).mods
  exact law_callG ⟨kx, G.T.g, G.T.b, G.T.builtins, G.T.nolimit, ⟨_, ms.choose_spec.1⟩, hg, hT, nT, C, G.T.bmain⟩ hobj hints (Nat.le_trans hlen hn2) hr hF hb fun H hH hS => hsp H a ns hlen hbits hH hS
end KZ
end

section
set_option Elab.async false
set_option linter.all false
set_option maxRecDepth 100000
set_option maxHeartbeats 4000000
/-! own errors without a dict: made, asked by isinstance -/
namespace KZ
open PySem PySem.Spec PyProof.Rows L2
section
variable {X : Cx} {pins : List (Addr × Obj)} {σ : L2.St} {H : Hp} {s : Shared}
/-- isinstance(e, c), e an error of the program's own, with a dict or without -/
def rIsE (K : PySem.W.Frag) : List V → Hp → VK → Prop := fun xs H Q => ∃ (a C : Addr) (d : Option Addr) (c : V) (u : Value) (b : Bool), xs = [.ref a, c] ∧ ClsV c u ∧ ExcT K C ∧ H a = some (EXO C a d) ∧ (∀ dd, d = some dd → ∃ fs, XD H dd fs) ∧ PySem.W.kitOne K (.ref C) u = some b ∧ Q (.bl b) H
theorem call_isE : CallR X (.builtin "isinstance") (rIsE X.K) := by
  intro pins s σ H xs us Q I r h
  obtain ⟨a, C, d, c, u, b, rfl, k, T, ea, ed, e, q⟩ := h
  obtain ⟨u1, u2, rfl, r1, r2⟩ := vals2 r
  have e2 := k.eq r2
  subst e2
  obtain rfl : u1 = Value.ref a := r1
  have hcl : (PySem.W.clsIn X.K C).isSome = true := by
    obtain ⟨cd, hC, _⟩ := PySem.W.any_some T.hd
    rw [hC]
    rfl
  obtain ⟨oe, od, J⟩ : ∃ (oe : Obj) (od : Option Obj), PySem.W.InstAt s.heap a oe C od := by
    cases d with
    | some dd =>
      obtain ⟨fs, ed⟩ := ed dd rfl
      obtain ⟨oe, od, mA, J, _, _⟩ := inst_of I ea ed
      exact ⟨oe, _, J⟩
    | none =>
      obtain ⟨oe, vs, ha, hz, hd⟩ := EXO.get I.hok ea
      exact ⟨oe, none, ⟨ha, hz.1, by unfold PySem.W.notCls; rw [hd] <;> rfl, by rw [hz.2]; exact True.intro⟩⟩
  exact PySem.W.kia_one (PySem.W.kitx_exc hcl T.ga T.gg T.be T.kl T.ge T.tk T.mo) I.kIn J e (fun z => nomatch z) fun tk => ⟨.bl b, H, I.tok tk, rfl, q⟩
/-- C(), an own error without an __init__ of its own -/
theorem pe_oex0 {C : Addr} {bmB : List Value} {B newId initId : String} {x : Str} {p pos : Pos} (F : ExcBaseFacts B newId initId bmB) (q : PySem.W.excIn X.K C bmB newId = true) (gC : X.mg x = some (.ref C)) (kC : PySem.W.keepIn X.K (.ref C) = true) (hg : Gl X x)
    (hdb : (x == ("__debug__" : Str)) = false := by decide) :
    PE X (.Call (.Name x p) [] [] pos) (fun σ H Q => ∀ a, H a = none → Q (.ref a) (upd H a (EXO C a none))) := by
  refine ⟨fun pins s σ H Q I h => ?_⟩
  refine wpAny_Call_Name_kw (ld_glob I hg gC ?_ hdb)
  refine PySem.W.callWith_K0 I.kIn kC ?_
  obtain ⟨bm, N, nm, qn, bs, hdct, sn, sub, ab, col, dd, k0, k1, k2, k3, k5, mN, hC, hN, hni, T⟩ := exc_obj I.kIn q
  refine wpAny_call_exc_subT F T hC hN hni (fun h' a hm => ?_) (by show 0 ≤ sizeLine; omega)
  have hn : H a = none := I.hok.gone hm.new
  obtain ⟨t, ht, _, _⟩ := hm.there
  exact ⟨.ref a, upd H a (EXO C a none), I.laidN hm.keeps hm.new hn (exo_okE ht ⟨rfl, rfl⟩ rfl), rfl, h a hn⟩
end
end KZ
end

section
set_option Elab.async false
set_option linter.all false
set_option maxRecDepth 100000
set_option maxHeartbeats 4000000
/-! the end over a head by names: own errors' facts by one Bool -/
namespace KZ
open PySem PySem.Spec PyProof.Rows L2
theorem walkGE {l : PySem.W.OpenLaw} {n k : Nat} {q : Program} {loose : List Str} {XP : (Str → Option Value) → Heap → Prop} {YP : World → Heap → Prop} {d : DefRec} {x : Str}
    (hn : l.most = some n) (hn2 : n ≤ sizeLine) (hdf : d.params.defaults = []) (hr : Room k callerA) (hno : importsNone q = true)
    (F : ∀ (w : World) (mg : Str → Option Value) (fa : Addr) (h : Heap), YP w h → h.Ns mainGlobals mg → mg d.name = some (.ref fa) → ∃ K : PySem.W.Frag, K.In h ∧ LawG l w K k n x mg fa h) :
    PySem.W.WalkO q loose XP YP l.row.toRowW d [] (fun f vs => PySem.call f vs) := by
  refine Att.attach_callB hn hdf fun w s₀ s₁ mg mb fa o pm cd doc a vs ns G Y ho hd hcd hmg hobj hints hlen hbits hg => ?_
  obtain ⟨K, kx, fd, cs, sp, hT, nT, C, hb, hsp, hF⟩ := F w mg fa _ Y G.T.g hmg
  have ms := (G.T.seer hno).mods
  exact law_callG ⟨kx, G.T.g, G.T.b, G.T.builtins, G.T.nolimit, ⟨_, ms.choose_spec.1⟩, hg, hT, nT, C, G.T.bmain⟩ hobj hints (Nat.le_trans hlen hn2) hr hF hb fun H hH hS => hsp H a ns hlen hbits hH hS
theorem fun_of {K : PySem.W.Frag} {x qual : Str} {st : Stmt} {f : Addr} {fd : FuncData} (F : FunD K x qual (defArgs st) (defBody st) (defScope st) [] [] f fd) : Fun K x qual st f fd := by
  obtain ⟨oc, od, dV, kV, doc, pm, an, cdv, ct, osl, e, lk, hcd, hD, hK⟩ := F.ex
  rcases hD with ⟨_, rfl⟩ | ⟨z, _⟩
  · exact ⟨⟨oc, od, kV, doc, pm, an, cdv, ct, osl, e, lk, hcd⟩, F.kp⟩
  · exact absurd rfl z
def oexB (K : PySem.W.Frag) (C : Addr) : Bool := match K.lookup C with
  | some ⟨.type "type", _, .cls cd, sl⟩ => (match cd.mro, sl.toList with
    | .ref C' :: bm, [_, _, _, _, some (.builtin n), _] => C' == C && n == "ValueError.__new__" && !cd.hasDel && cd.hasDict && PySem.HandSPX.refsVE bm
    | _, _ => false)
  | _ => false
theorem oexB_ok {K : PySem.W.Frag} {C : Addr} (q : oexB K C = true) :
    ∃ nm q N bs bm sn sub ab col dd k0 k1 k2 k3 k5, K.lookup C = some (excClassObj nm q C N bs bm true sn sub ab col dd k0 k1 k2 k3 k5 "ValueError.__new__") ∧ PySem.HandSPX.refsVE bm = true := by
  unfold oexB at q
  split at q
  · rename_i dd cd sl ho
    split at q
    · rename_i C' bm k0 k1 k2 k3 n k5 hm hs
      simp only [Bool.and_eq_true, beq_iff_eq, Bool.not_eq_true'] at q
      obtain ⟨⟨⟨⟨rfl, rfl⟩, hdel⟩, hd⟩, hr⟩ := q
      obtain ⟨nm, bs, mro, ns, qn, hd', sn, sub, ab, col, del⟩ := cd
      dsimp only at hm hdel hd
      subst hm hdel hd
      have hsl : sl = #[k0, k1, k2, k3, some (.builtin "ValueError.__new__"), k5] := by
        obtain ⟨l⟩ := sl
        simp only at hs
        rw [hs]
      subst hsl
      exact ⟨nm, qn, ns, bs, bm, sn, sub, ab, col, dd, k0, k1, k2, k3, k5, ho, hr⟩
    · cases q
  · cases q
/-- what is asked of every error class -/
def errB (K : PySem.W.Frag) (C : Addr) : Bool := He.eqO (PySem.W.findIn K (.ref C) "__getattribute__") (some (some (.builtin "BaseException.__getattribute__"))) && (He.eqO (PySem.W.findIn K (.ref C) "__getattr__") (some none) &&
  (decide (PySem.W.subIn K (.ref C) (.type "BaseException") = some true) && (PySem.W.hasDictIn K C && (He.eqO (PySem.W.findIn K (.ref C) "__class__") (some (some (.builtin "object.__class__"))) && (He.eqO (PySem.W.specialIn K (.builtin "object.__class__") "__get__") (some (some (.builtin "getset_descriptor.__get__"))) &&
  (decide (PySem.W.takesIn K (.builtin "object.__class__") = some true) && decide (PySem.W.mroIn K C (.type "object") = some true)))))))
theorem errB_ok {K : PySem.W.Frag} {C : Addr} (h : errB K C = true) : ExcT K C := by
  obtain ⟨h1, h⟩ := He.ba h
  obtain ⟨h2, h⟩ := He.ba h
  obtain ⟨h3, h⟩ := He.ba h
  obtain ⟨h4, h⟩ := He.ba h
  obtain ⟨h5, h⟩ := He.ba h
  obtain ⟨h6, h⟩ := He.ba h
  obtain ⟨h7, h8⟩ := He.ba h
  exact ⟨He.eqO_ok h1, He.eqO_ok h2, of_decide_eq_true h3, h4, He.eqO_ok h5, He.eqO_ok h6, of_decide_eq_true h7, of_decide_eq_true h8⟩
/-- what is asked of an error class with its own __init__, its fields fs -/
def errI (K : PySem.W.Frag) (C : Addr) (fs : List Str) : Bool := errB K C && (oexB K C && (He.eqO (PySem.W.findIn K (.ref C) "__setattr__") (some (some (.builtin "object.__setattr__"))) && (decide (PySem.W.typeIn K (.ref C) = some (.type "type")) && (PySem.W.keepIn K (.ref C) &&
  (He.eqO (PySem.W.findIn K (.ref C) "__init__") (some (some (.ref (He.ma K C "__init__")))) && (decide (PySem.W.typeIn K (.ref (He.ma K C "__init__")) = some (.type "function")) && fs.all fun f => He.eqO (PySem.W.findIn K (.ref C) f) (some none)))))))
end KZ
end

section
set_option Elab.async false
set_option linter.all false
set_option maxRecDepth 100000
set_option maxHeartbeats 4000000
/-! the head's facts over a chosen part of the heap: what some names lead to, the globals' dict itself not gone into -/
namespace KZ
open PySem PySem.Spec PyProof.Rows L2 He
/-- one step further, but not through the globals -/
def grY (g : Addr → Option Obj) (as : List Addr) : List Addr :=
  ((as ++ (as.map fun a => ((g a).map refsD).getD []).flatten).filter fun a => !(Nat.beq a mainGlobals)).eraseDups
def stY (g : Addr → Option Obj) : Nat → List Addr → List Addr
  | 0, as => as
  | m + 1, as => stY g m (grY g as)
/-- the globals, and what these names lead to in m steps -/
def asY (names : List Str) (m : Nat) (g : Addr → Option Obj) : List Addr :=
  mainGlobals :: stY g m (names.map fun x => ga (frG g [mainGlobals]) x)
/-- the globals; these defs; these classes, what they name, and what their own __init__ names -/
def asZ (fs cs : List Str) (g : Addr → Option Obj) : List Addr :=
  let K0 := frG g [mainGlobals]
  let nx := fun a => ((g a).map refsD).getD []
  (mainGlobals :: ((fs.map fun x => let a := ga K0 x; (a :: nx a).filter fun b => !(Nat.beq b mainGlobals)).flatten ++
    (cs.map fun x => let C := ga K0 x; let l := nx C; let i := ma (frG g (C :: l)) C "__init__"; (C :: l) ++ (i :: nx i)).flatten)).eraseDups
section
variable (as : (Addr → Option Obj) → List Addr) (fa : List Fa) (fn : List DefD) (ts : List Tab) (tf : List Defn) (ex : PySem.W.Frag → Bool)
def partY (g : Addr → Option Obj) : PySem.W.Frag := frT g (as g)
def obsY (g : Addr → Option Obj) : AlX :=
  let K := partY as g
  (obsT fa fn ts K, ex K && tabsB g tf K)
theorem saysY {w : World} {h : Heap} (e : obsY as fa fn ts tf ex h.get? = valX fn ts w) : SaysX fa fn ts tf ex w h (partY as h.get?) := by
  have z := Prod.mk.inj e
  obtain ⟨x1, x2⟩ := ba z.2
  have at_ : ∀ p, p ∈ tf → PySem.W.codeHdIn (partY as h.get?) (cT (partY as h.get?) p).1 (cT (partY as h.get?) p).2 = true ∧
      ∃ o, h.get? (cT (partY as h.get?) p).2 = some o ∧ emptyTab o = true := by
    intro p hp
    have y := ba (List.all_eq_true.mp x2 p hp)
    refine ⟨y.1, ?_⟩
    have y2 := y.2
    split at y2
    · rename_i o ho
      exact ⟨o, ho, y2⟩
    · cases y2
  constructor
  · exact z.1
  · exact x1
  · exact fun p hp => (at_ p hp).1
  · intro p hp
    have ⟨o, ho, eo⟩ := (at_ p hp).2
    exact frT_none ho eo
  · intro p hp
    have ⟨o, ho, eo⟩ := (at_ p hp).2
    exact ho.trans (congrArg some (emptyTab_eq eo))
def hookY : PySem.W.Hook where
  α := AlX
  obs s := obsY as fa fn ts tf ex s.heap.get?
  val w := valX fn ts w
  says w h := ∃ K : PySem.W.Frag, K.In h ∧ SaysX fa fn ts tf ex w h K
  of _ _ e := ⟨partY as _, frT_in, saysY as fa fn ts tf ex e⟩
  keeps _ _ _ c k := by
    obtain ⟨K, hK, s⟩ := c
    exact ⟨K, hK.keeps k, s.t, s.more, s.hd, s.out, fun p hp => k _ _ (s.empty p hp)⟩
theorem obsY_eq {g : Addr → Option Obj} {s : Shared} (h : ∀ a, g a = s.heap.get? a) : obsY as fa fn ts tf ex g = (hookY as fa fn ts tf ex).obs s := by
  rw [show g = s.heap.get? from funext h]
  rfl
end
/-- the same world; one row of the text's is told -/
def told (b : Bool) (w : World) : World := ⟨w.draws, { w.params with followText := fun row => if row = "special-get-raises" then b else w.params.followText row }⟩
theorem told_eq {b : Bool} {w : World} (h : w.params.followText "special-get-raises" = b) : told b w = w := by
  obtain ⟨d, p⟩ := w
  have e : (fun row => if row = "special-get-raises" then b else p.followText row) = p.followText := funext fun row => by
    by_cases z : row = "special-get-raises"
    · rw [if_pos z, z]; exact h.symm
    · rw [if_neg z]
  show (⟨d, { p with followText := fun row => if row = "special-get-raises" then b else p.followText row }⟩ : World) = ⟨d, p⟩
  rw [e]
end KZ
end

section
set_option Elab.async false
set_option linter.all false
set_option maxRecDepth 100000
set_option maxHeartbeats 4000000
/-! dicts whose keys are None, ints and texts -/
namespace KZ
open PySem PySem.Spec PyProof.Rows L2
abbrev NK := Option Key
def nV : NK → V
  | none => .non
  | some k => kV k
theorem nV_is {P : Program} {w : World} {k : NK} {u : Value} (r : RelV (nV k) u) : (noneKind P w).is k u = true := by
  cases k with
  | none =>
    obtain rfl : u = Value.none := r
    rfl
  | some k => exact kV_is (P := P) (w := w) r
theorem nV_rel {k : NK} {u : Value} (h : nkIs k u = true) : RelV (nV k) u := by
  cases k with
  | none =>
    rw [nk_none h]
    rfl
  | some k => exact relV_key h
/-- the dict at a, its pairs in their order -/
def DN (P : Program) (w : World) (a : Addr) (kvs : List (NK × V)) : HO :=
  .ext fun h => kvs.length ≤ sizeLine ∧ (a == sysModules) = false ∧ ∃ vs, KV kvs vs ∧ h.DictOf (noneKind P w) a vs
section
variable {P : Program} {w : World} {H : Hp} {h : Heap} {a : Addr} {kvs : List (NK × V)} {vs : List (NK × Value)}
theorem DN.mk (z : kvs.length ≤ sizeLine) (hd : (a == sysModules) = false) (rel : KV kvs vs) (dd : h.DictOf (noneKind P w) a vs) : ObjOk P w H h a (DN P w a kvs) := by
  refine ⟨⟨z, hd, vs, rel, dd⟩, ?_, fun h1 h2 ⟨z, hd, vs, rel, dd⟩ st => ⟨z, hd, vs, rel, ?_⟩⟩
  · obtain ⟨o, _, _, ho, _⟩ := dd
    exact ⟨o, ho⟩
  · obtain ⟨o, es, ep, ho, r⟩ := dd
    exact ⟨o, es, ep, st o ho, r⟩
theorem DN.un (ok : ObjOk P w H h a (DN P w a kvs)) : kvs.length ≤ sizeLine ∧ (a == sysModules) = false ∧ ∃ vs, KV kvs vs ∧ h.DictOf (noneKind P w) a vs := ok.1
theorem DN.rd (ok : HOk P w H h) (e : Rd H a (DN P w a kvs)) : kvs.length ≤ sizeLine ∧ (a == sysModules) = false ∧ ∃ vs, KV kvs vs ∧ h.DictOf (noneKind P w) a vs := DN.un (e.ok ok)
theorem DN.mut {P : Program} {w : World} {a : Addr} {kvs : List (NK × V)} : Mut (some (DN P w a kvs)) := True.intro
end
section
variable {X : Cx} {pins : List (Addr × Obj)} {σ : L2.St} {H : Hp} {s : Shared} {a : Addr} {v d : V} {u r : Value} {k : NK} {kvs : List (NK × V)} {A : Around} {E : Value → Shared → Prop}
theorem n_getItem {Q : Value → Shared → Prop} (I : Inv X pins σ H s) (e : Rd H a (DN X.prog X.w a kvs)) (ry : RelV (nV k) u) (l : valV kvs k = some v) (h : ∀ x s', Inv X pins σ H s' → RelV v x → Q x s') :
    wpAny (model X.prog X.w) A (getItem (.ref a) u) Q E s := by
  obtain ⟨_, _, vs, rel, dd⟩ := DN.rd (kvs := kvs) I.hok e
  have rv := rel.val k
  rw [l] at rv
  obtain ⟨x, hx, rx⟩ := RelO.some_of rv
  exact wpAny_getItem_of (nV_is ry) dd.mapOf hx (h x _ (I.tok _) rx)
theorem n_in {Q : Value → Shared → Prop} (I : Inv X pins σ H s) (e : Rd H a (DN X.prog X.w a kvs)) (ry : RelV (nV k) u) (h : ∀ s', Inv X pins σ H s' → Q (.bool (valV kvs k).isSome) s') :
    wpAny (model X.prog X.w) A (compareOp .In u (.ref a)) Q E s := by
  obtain ⟨_, hd, vs, rel, dd⟩ := DN.rd (kvs := kvs) I.hok e
  refine wpAny_in_of (nV_is ry) hd dd.mapOf ?_
  have e2 := (rel.val k).isSome_eq
  rw [← e2]
  exact h _ (I.tok _)
theorem n_get2 {Q : Value → Shared → Prop} (I : Inv X pins σ H s) (e : Rd H a (DN X.prog X.w a kvs)) (ry : RelV (nV k) u) (rd : RelV d r) (h : ∀ x s', Inv X pins σ H s' → RelV ((valV kvs k).getD d) x → Q x s') :
    wpAny (model X.prog X.w) A (call (.builtin "dict.get") [.ref a, u, r]) Q E s := by
  obtain ⟨_, hd, vs, rel, dd⟩ := DN.rd (kvs := kvs) I.hok e
  have m := meets_dict_get_default (noneKind X.prog X.w) a (nV_is ry) hd r
  exact call_meetsIn PySem.F.slot_dict_get dd.typeIs PySem.F.entry_dict_get (PySem.F.args_dict_get_3 _ _ _) m ⟨_, dd.mapOf, h _ _ (I.tok _) ((rel.val k).getD rd)⟩
/-- the dict's object is another one now -/
theorem n_write {h' : Heap} {t' : Nat} {ms : List (NK × V)} {us : List (NK × Value)} (I : Inv X pins σ H s) (mu : Mut (H a)) (sb : Heap.SameBut a s.heap h') (z : ms.length ≤ sizeLine) (hd : (a == sysModules) = false) (rel : KV ms us) (dd : h'.DictOf (noneKind X.prog X.w) a us) :
    Inv X pins σ (upd H a (DN X.prog X.w a ms)) { s with heap := h', toks := t' } := by
  have ob : ∃ q, h'.get? a = some q := by
    obtain ⟨q, _, _, hq, _⟩ := dd
    exact ⟨q, hq⟩
  exact d_write I mu sb ob (DN.mk z hd rel dd)
theorem n_setItem {Q : Unit → Shared → Prop} (I : Inv X pins σ H s) (e : H a = some (DN X.prog X.w a kvs)) (hz : kvs.length < sizeLine) (ry : RelV (nV k) u) (rv : RelV v r)
    (h : ∀ s', Inv X pins σ (upd H a (DN X.prog X.w a (putK kvs k v))) s' → Q () s') : wpAny (model X.prog X.w) A (setItem (.ref a) u r) Q E s := by
  obtain ⟨_, hd, vs, rel, dd⟩ := DN.rd (kvs := kvs) I.hok (.inl e)
  have l1 := length_putK kvs k v
  have l2 : vs.length ≤ sizeLine := by
    rw [← rel.length]
    omega
  have mu : Mut (H a) := by
    rw [e]
    exact DN.mut
  exact wpAny_setItem_pairs (hsz := l2) (nV_is ry) dd fun h' d2 sb => h _ (n_write I mu sb (by omega) hd (rel.put k rv) d2)
theorem n_dictSet {Q : Unit → Shared → Prop} (I : Inv X pins σ H s) (e : H a = some (DN X.prog X.w a kvs)) (hz : kvs.length < sizeLine) (ry : RelV (nV k) u) (rv : RelV v r)
    (h : ∀ s', Inv X pins σ (upd H a (DN X.prog X.w a (putK kvs k v))) s' → Q () s') : wpAny (model X.prog X.w) X.A (dictSet a u r) Q E s := by
  obtain ⟨_, hd, vs, rel, dd⟩ := DN.rd (kvs := kvs) I.hok (.inl e)
  have l1 := length_putK kvs k v
  have l2 : vs.length ≤ sizeLine := by
    rw [← rel.length]
    omega
  have mu : Mut (H a) := by
    rw [e]
    exact DN.mut
  exact wpAny_dictSet_pairs (hsz := l2) (nV_is ry) dd fun h' d2 sb => h _ (n_write I mu sb (by omega) hd (rel.put k rv) d2)
theorem n_kind (I : Inv X pins σ H s) (e : Rd H a (DN X.prog X.w a kvs)) : s.TypeIs (.ref a) "dict" ∧ ∀ b, Value.ref a = .ref b → ∃ ob, s.heap.get? b = some ob ∧ ob.dict = none := by
  obtain ⟨_, _, vs, _, dd⟩ := DN.rd (kvs := kvs) I.hok e
  refine ⟨dd.typeIs, fun b q => ?_⟩
  cases q
  obtain ⟨ob, _, _, h1, h2, _⟩ := dd
  exact ⟨ob, h1, h2.2.1⟩
end
/-! readings -/
def tNNew (X : Cx) : TE := fun _ H Q => ∀ p, H p = none → Q (.ref p) (upd H p (DN X.prog X.w p []))
def tNGet (X : Cx) (td ty : TE) : TE := fun σ H Q => td σ H fun x H1 => ty σ H1 fun y H2 => ∃ a kvs k v, x = .ref a ∧ Rd H2 a (DN X.prog X.w a kvs) ∧ y = nV k ∧ valV kvs k = some v ∧ Q v H2
def tNIn (X : Cx) (ty td : TE) : TE := fun σ H Q => ty σ H fun y H1 => td σ H1 fun x H2 => ∃ a kvs k, x = .ref a ∧ Rd H2 a (DN X.prog X.w a kvs) ∧ y = nV k ∧ Q (.bl (valV kvs k).isSome) H2
def tNGet2 (X : Cx) (td ty tx : TE) : TE := fun σ H Q => td σ H fun x H1 => ∃ a kvs, x = .ref a ∧ Rd H1 a (DN X.prog X.w a kvs) ∧ ty σ H1 fun y H2 => tx σ H2 fun z H3 => ∃ kvs k, Rd H3 a (DN X.prog X.w a kvs) ∧ y = nV k ∧ Q ((valV kvs k).getD z) H3
def sNPut (X : Cx) (td ty tv : TE) : TS := fun D σ H => tv σ H fun v H1 => td σ H1 fun x H2 => ty σ H2 fun y H3 => ∃ a kvs k, x = .ref a ∧ H3 a = some (DN X.prog X.w a kvs) ∧ y = nV k ∧ kvs.length < sizeLine ∧ D.nx σ (upd H3 a (DN X.prog X.w a (putK kvs k v)))
section
variable {X : Cx} {o i e f value : Expr} {pos pos' apos cpos : Pos} {td ty tx tv : TE}
theorem pe_nnew : PE X (.Dict [] [] pos) (tNNew X) := by
  refine ⟨fun pins s σ H Q I h => ?_⟩
  refine thn (pe_dnewK.run pins s σ H (fun v H1 => ∃ p, v = .ref p ∧ H p = none ∧ H1 = upd H p (.dK [])) I fun p hp => ⟨p, rfl, hp, rfl⟩) fun u s1 ⟨v, H1, I1, rv, p, ev, hp, eH⟩ => ?_
  subst ev eH
  obtain ⟨z, hd, vs, rel, dd⟩ := dk_of (kvs := []) I1.hok upd_same
  have e0 : vs = [] := by cases rel; rfl
  subst e0
  have d2 : s1.heap.DictOf (noneKind X.prog X.w) p [] := by
    obtain ⟨ob, es, ep, h1, h2, h3, h4, h5, h6⟩ := dd
    have e1 : es = #[] := by
      have l := h5.length
      simp at l
      exact l
    subst e1
    exact ⟨ob, #[], ep, h1, h2, h3, fun q hq => absurd hq (by simp), .nil, List.nodup_nil⟩
  have I2 : Inv X pins σ (upd (upd H p (.dK [])) p (DN X.prog X.w p [])) s1 := n_write (t' := s1.toks) I1 (by rw [upd_same]; exact True.intro) ⟨rfl, fun b _ => rfl⟩ z hd .nil d2
  rw [upd_upd] at I2
  exact ⟨.ref p, _, I2, rv, h p hp⟩
theorem pe_nget (ho : PE X o td) (hi : PE X i ty) (hs : NoSl i) : PE X (.Subscript o i pos) (tNGet X td ty) := by
  refine ⟨fun pins s σ H Q I h => subD_of PySem.F.slot_dict_getitem.lookup hs (thn (ho.run pins s σ H _ I h) fun u s1 ⟨x, H1, I1, rx, q1⟩ => thn (hi.run pins s1 σ H1 _ I1 q1) fun j s2 ⟨y, H2, I2, ry, q2⟩ => ?_)⟩
  obtain ⟨a, kvs, k, v, ex, e2, ey, l, q⟩ := q2
  subst ex ey
  cases (show u = Value.ref a from rx)
  exact ⟨(n_kind I2 e2).1, n_getItem I2 e2 ry l fun x s3 I3 r3 => ⟨v, H2, I3, r3, q⟩⟩
theorem pc_nin (hi : PE X i ty) (ho : PE X o td) : PC X .In i o (tNIn X ty td) := by
  refine ⟨fun pins s σ H Q I h => thn (hi.run pins s σ H _ I h) fun j s1 ⟨y, H1, I1, ry, q1⟩ => thn (ho.run pins s1 σ H1 _ I1 q1) fun u s2 ⟨x, H2, I2, rx, q2⟩ => ?_⟩
  obtain ⟨a, kvs, k, ex, e2, ey, q⟩ := q2
  subst ex ey
  cases (show u = Value.ref a from rx)
  exact n_in I2 e2 ry fun s3 I3 => ⟨.bl _, H2, I3, rfl, q⟩
theorem pe_nget2 (ho : PE X o td) (he : PE X e ty) (hf : PE X f tx) (m : M2 X o "get" apos e f cpos) : PE X (.Call (.Attribute o "get" apos) [e, f] [] cpos) (tNGet2 X td ty tx) := by
  refine ⟨fun pins s σ H Q I h => wpAny_Call_method m.base m.few m.line PySem.F.plainAttrs_dict PySem.F.slot_dict_get PySem.F.type_dict_get (thn (ho.run pins s σ H _ I h) fun u s1 ⟨x, H1, I1, rx, q1⟩ => ?_)⟩
  obtain ⟨a, kvs, ex, e1, q1⟩ := q1
  subst ex
  cases (show u = Value.ref a from rx)
  have kd := n_kind (kvs := kvs) I1 e1
  refine ⟨kd.1, kd.2, ?_⟩
  rw [m.trees]
  refine Calls.callWith_builtin rfl (Calls.evalArgs_plain (Calls.spliced_cons (thn (he.run pins s1 σ H1 _ I1 q1) fun j s2 ⟨y, H2, I2, ry, q2⟩ => Calls.spliced_cons (thn (hf.run pins s2 σ H2 _ I2 q2) fun g s3 ⟨z, H3, I3, rz, q3⟩ => Calls.spliced_nil ?_))))
  obtain ⟨ms, k, e3, ey, q⟩ := q3
  subst ey
  exact n_get2 I3 e3 ry rz fun x s4 I4 r4 => ⟨_, H3, I4, r4, q⟩
theorem ps_nput (ho : PE X o td) (hi : PE X i ty) (hv : PE X value tv) (hs : swapsWith value (some (.Subscript o i pos')) pos.line X.env = pure false) : PS X (.Assign [.Subscript o i pos'] value pos) (sNPut X td ty tv) := by
  refine ⟨fun pins s σ H D I h => wpAny_Assign_Subscript (thn (hv.run pins s σ H _ I h) fun r s1 ⟨v, H1, I1, rv, q1⟩ => thn (ho.run pins s1 σ H1 _ I1 q1) fun u s2 ⟨x, H2, I2, rx, q2⟩ => thn (hi.run pins s2 σ H2 _ I2 q2) fun j s3 ⟨y, H3, I3, ry, q3⟩ => ?_) hs⟩
  obtain ⟨a, kvs, k, ex, e3, ey, hz, q⟩ := q3
  subst ex ey
  cases (show u = Value.ref a from rx)
  exact n_setItem I3 e3 hz ry rv fun s4 I4 => ⟨σ, _, I4, q⟩
end
/-! for k in d -/
/-- what the lock tells of it -/
theorem n_lock {X : Cx} {pins : List (Addr × Obj)} {σ : L2.St} {H : Hp} {s : Shared} {d : Addr} {o : Obj} {kvs : List (NK × V)} (I : Inv X pins σ H s) (h : H d = some (.frz o (DN X.prog X.w d kvs))) :
    (d == sysModules) = false ∧ s.heap.get? d = some o ∧ o.ExactDict ∧ ∃ (es : Array DictEntry) (ep : Nat) (vs : List (NK × Value)), o.data = .dict es ep ∧ es.size = kvs.length ∧ KV kvs vs ∧ s.heap.DictAt (noneKind X.prog X.w) d vs ep := by
  have q := I.hok d _ h
  obtain ⟨_, z, vs, kv, dd⟩ := DN.un q.2
  have hd : s.heap.get? d = some o := q.1
  obtain ⟨ob, es, ep, h1, h2, h3, r⟩ := dd
  rw [hd] at h1
  cases h1
  have n1 := r.2.1.length
  have n2 : kvs.length = vs.length := Paired.length kv
  rw [Array.length_toList] at n1
  exact ⟨z, hd, h2, es, ep, vs, h3, n1.trans n2.symm, kv, o, es, hd, h2, h3, r⟩
def Itn (P : Program) (w : World) (d : Addr) (o : Obj) (kvs : List (NK × V)) : It where
  go i H := H d = some (.frz o (DN P w d kvs)) ∧ i < kvs.length
  yld i H x H' := H' = H ∧ ∃ k v, kvs[i]? = some (k, v) ∧ x = nV k
  stop i H := H d = some (.frz o (DN P w d kvs)) ∧ kvs.length ≤ i
theorem turn_n {P : Program} {w : World} {K : PySem.W.Frag} {tg : Expr} {d it : Addr} {o : Obj} {es : Array DictEntry} {ep : Nat} {kvs : List (NK × V)} (hod : o.data = .dict es ep) : Turn P w K tg (Itn P w d o kvs) [it] it (fun i h => h.IsKeyIter it d i kvs.length ep) where
  mem := List.mem_singleton.mpr rfl
  obj i h st b hb := by
    rw [List.mem_singleton.mp hb]
    obtain ⟨oi, e, _, dd⟩ := st
    refine ⟨oi, e, fun v z => ?_⟩
    rw [dd] at z
    cases z
  keep i h h' st k := st.at (k it (List.mem_singleton.mpr rfl))
  item := by
    rintro X rfl rfl rfl hc i pins s σ H E I hf st ⟨hd, hi⟩
    have F := hf it (List.mem_singleton.mpr rfl)
    obtain ⟨_, _, _, es2, ep2, vs, h3, _, kv, at_⟩ := n_lock I hd
    cases (dict_ep hod h3).2
    have hkv : kvs[i]? = some (kvs[i].1, kvs[i].2) := List.getElem?_eq_getElem hi
    obtain ⟨u, hu, _⟩ := kv_get kv hkv
    have n : kvs.length = vs.length := Paired.length kv
    rw [n] at st
    refine wpAny_pyNext_dict_item st at_ hu fun key h2 hk st2 sb => ?_
    have I2 := I.turned (h' := h2) (t' := s.toks) (fun b ob hb e => (sb.2 b hb).trans e) F.1 F.2.1 F.2.2.2.1 F.2.2.2.2.1 F.2.2.2.2.2
    obtain ⟨oi, e, c, dd⟩ := id st2
    refine ⟨key, rfl, go_of (s := { s with heap := h2 }) e c dd (by decide) ⟨nV kvs[i].1, H, I2, nV_rel hk, ⟨rfl, _, _, hkv, rfl⟩, ?_, fun b hb => (hf b hb).1⟩⟩
    show h2.IsKeyIter it d (i + 1) kvs.length _
    rw [n]
    exact st2
  done := by
    rintro X rfl rfl rfl hc i pins s σ H E I hf st ⟨hd, hi⟩
    have F := hf it (List.mem_singleton.mpr rfl)
    obtain ⟨_, hg, _, es2, ep2, vs, h3, sz, _, _⟩ := n_lock I hd
    cases (dict_ep hod h3).2
    exact next_key_end (I.ok.hd hc) st hg h3 sz hi fun h2 eb => ⟨rfl, I.turned (t' := s.toks) (fun b ob hb e => eb b ob hb e) F.1 F.2.1 F.2.2.2.1 F.2.2.2.2.1 F.2.2.2.2.2⟩
  self A i s Q E st h := wpAny_pyIter_keyiter st h
/-- the dict is locked by the caller -/
def iNk (X : Cx) (td : TE) : TI := fun σ H R => td σ H fun x H1 => ∃ d o kvs, x = .ref d ∧ H1 d = some (.frz o (DN X.prog X.w d kvs)) ∧ R (Itn X.prog X.w d o kvs) H1
theorem pi_nk {X : Cx} {tg e : Expr} {td : TE} (he : PE X e td) : PI X tg e (iNk X td) := by
  refine ⟨fun pins s σ H R I h => thn (he.run pins s σ H _ I h) fun u s1 ⟨x, H1, I1, rx, q⟩ => ?_⟩
  obtain ⟨d, o, kvs, ex, hd, q⟩ := q
  subst ex
  cases (show u = Value.ref d from rx)
  obtain ⟨z, hg, hx, es, ep, vs, h3, sz, _, _⟩ := n_lock I1 hd
  refine iter_keys z hg hx h3 (pi_one (tk := s1.toks) I1 _ (turn_n h3) ⟨_, Heap.get?_push_size _ rfl, rfl, ?_⟩ q)
  rw [sz]
  rfl
end KZ
end

section
set_option Elab.async false
set_option linter.all false
set_option maxRecDepth 100000
set_option maxHeartbeats 4000000
/-! a dict by a comprehension, None among its keys -/
namespace KZ
open PySem PySem.Spec PyProof.Rows L2
section
variable {X : Cx}
/-- one turn of {k: v for target in iter if ..} into the dict at D; Nx: what the next turn asks -/
def tNTurn (X : Cx) (D : Addr) (tt : TT) (tk tv : TE) (Nx : Hp → Prop) : L2.St → Hp → Prop := fun σ H =>
  tt σ H fun b H3 => if b = true then tk σ H3 fun y H4 => tv σ H4 fun z H5 => ∃ kvs k, y = nV k ∧ H5 D = some (DN X.prog X.w D kvs) ∧ kvs.length < sizeLine ∧ Nx (upd H5 D (DN X.prog X.w D (putK kvs k z))) else Nx H3
def tDn (X : Cx) (wi : TI) (g : TG) (tt : TT) (tk tv : TE) (vs : List Nat) : TE := fun σ H Q => wi σ H fun J H1 => ∀ D, H1 D = none →
  ∃ W : Nat → Nat → Hp → Prop, (∃ m, W 0 m (upd H1 D (DN X.prog X.w D []))) ∧ ∀ i m H, W i m H → (J.stop i H ∧ Q (.ref D) H) ∨
    (J.go i H ∧ ∃ Nx : Hp → Prop, (∀ H', Nx H' → ∃ m', m' < m ∧ W (i + 1) m' H') ∧ ∀ x H', J.yld i H x H' → g x (wipe σ vs) H' fun σ2 H2 => wipe σ2 vs = wipe σ vs ∧ tNTurn X D tt tk tv Nx σ2 H2)
theorem dn_empty {P : Program} {w : World} {H : Hp} (h : Heap) (hb : sysModules < h.objs.size) : ObjOk P w H (h.push { cls := .type "dict", data := .dict #[] }) h.objs.size (DN P w h.objs.size []) :=
  DN.mk (vs := []) (Nat.zero_le _) (beq_eq_false_iff_ne.mpr fun z => Nat.lt_irrefl _ (z ▸ hb)) .nil (Heap.DictOf.new h)
/-- {k: v for target in iter if ..} -/
theorem pe_dcN {kx vx tg iter : Expr} {ifs : List Expr} {scope : Scope} {own : List (Str × Nat)} {pos : Pos} {wi : TI} {g : TG} {tt : TT} {tk tv : TE} (calm : X.calm = true) (nd : X.N.Nodup) (it_ : PI X tg iter wi) (blk : BlkOk X.N X.env.scope scope own)
    (p1 : ∀ (s : Shared) (H : Hp) (C : Addr) (cl : List (Str × Addr)) (fp : List Addr), PG (X.blk s H scope (compEnvC scope cl C X.env) fp) tg g)
    (p2 : ∀ (s : Shared) (H : Hp) (C : Addr) (cl : List (Str × Addr)) (fp : List Addr), PTs (X.blk s H scope (compEnvC scope cl C X.env) fp) ifs tt)
    (p3 : ∀ (s : Shared) (H : Hp) (C : Addr) (cl : List (Str × Addr)) (fp : List Addr), PE (X.blk s H scope (compEnvC scope cl C X.env) fp) kx tk)
    (p4 : ∀ (s : Shared) (H : Hp) (C : Addr) (cl : List (Str × Addr)) (fp : List Addr), PE (X.blk s H scope (compEnvC scope cl C X.env) fp) vx tv)
    (fold : ∀ x, foldedSetIterable iter X.env x = pure x := by intro _; rfl) : PE X (.DictComp kx vx [⟨tg, iter, ifs, 0⟩] scope pos) (tDn X wi g tt tk tv (own.map (·.2))) := by
  refine ⟨fun pins s σ H Q I hQ => ?_⟩
  rw [arm_eval_DictComp]
  have free_ : ∀ y ∈ scope.names, y.2 = .free → ∃ c, X.env.cells.lookup y.1 = some c := by
    intro y hy e
    exact I.ok.has _ (blk.free y hy e)
  refine wpAny_comprehension_free (use := none) rfl fold (closure_ok free_) blk.kind (fun y hy e => by rw [blk.uniq y hy, e]) (thn (it_.run pins s σ H _ I hQ) fun xv s1 y1 => thn y1 fun itv s2 y2 => ?_)
  obtain ⟨it, fp, tn, J, H2, rfl, I2, T, st2, f2, q⟩ := y2
  refine wpAny_newObj_type (newEnv_comp ?_)
  generalize eD : s2.heap.objs.size = D
  obtain ⟨W, ⟨m0, w0⟩, turn⟩ := q D (I2.hok.fresh (Nat.le_of_eq eD))
  generalize e3 : ({ s2 with heap := s2.heap.push { cls := .type "dict", data := .dict #[] } } : Shared) = s3
  have heap3 : s3.heap = s2.heap.push { cls := .type "dict", data := .dict #[] } := e3 ▸ rfl
  generalize eH : upd H2 D (DN X.prog X.w D []) = H3 at w0
  have I3 : Inv X pins σ H3 s3 := by
    subst e3 eH eD
    exact I2.laid (t' := s2.toks) (fun b o e => Heap.get?_push_of_some _ e) (Nat.le_refl _) (dn_empty s2.heap I2.big)
  have low : ∀ b ∈ fp, b < s2.heap.objs.size := by
    intro b hb
    obtain ⟨o, e, _⟩ := T.obj _ _ st2 b hb
    exact Heap.lt_size e
  have f3 : ∀ b ∈ fp, FpOk X pins H3 b ∧ b < s3.heap.objs.size := by
    intro b hb
    have l := low b hb
    have z := f2 b hb
    refine ⟨⟨?_, z.2⟩, ?_⟩
    · rw [← eH, upd_ne (fun y => Nat.lt_irrefl _ (by rw [y, eD] at l; exact l))]
      exact z.1
    · rw [heap3, Heap.size_push]
      exact Nat.lt_succ_of_lt l
  have st3 : tn 0 s3.heap := T.keep _ _ _ st2 fun b _ o e => heap3 ▸ Heap.get?_push_of_some _ e
  have none3 : ∀ b ∈ fp, H3 b = none := fun b hb => (f3 b hb).1.1
  have I4 := block_start I3 blk nd f3
  generalize ecl : cellsFrom (s3.heap.objs.size + 1) scope.names (cloFrom X.env.cells scope.names []) = cl at I4
  have g1 := p1 s3 H3 s3.heap.objs.size cl fp
  have g2 := p2 s3 H3 s3.heap.objs.size cl fp
  have g3 := p3 s3 H3 s3.heap.objs.size cl fp
  have g4 := p4 s3 H3 s3.heap.objs.size cl fp
  have eL : (compEnvC scope cl s3.heap.objs.size X.env).locals = s3.heap.objs.size := rfl
  generalize eE : compEnvC scope cl s3.heap.objs.size X.env = env at I4 g1 g2 g3 g4 eL
  generalize e4 : ({ s3 with heap := pushCells (s3.heap.push { cls := .type "dict", data := .dict #[] }) scope.names } : Shared) = s4 at I4
  have st4 : tn 0 s4.heap := T.keep _ _ _ st3 fun b _ o e => e4 ▸ pushCells_keeps _ _ _ _ (Heap.get?_push_of_some _ e)
  let B := X.blk s3 H3 scope env fp
  have held : ∀ {σ' : L2.St} {H' : Hp} {s' : Shared}, Inv B [] σ' H' s' → (∀ b ∈ fp, H' b = none) → ∀ b ∈ fp, FpOk B [] H' b := by
    intro σ' H' s' J' n b hb
    have z := J'.ok.exf b hb
    exact ⟨n b hb, z.1, J'.ok.exfs b hb, .inl hb, fun x c e => z.2 x c e, fun p hp => nomatch (show p ∈ ([] : List (Addr × Obj)) from hp)⟩
  have post : codeAny (model X.prog X.w) X.A (.compLoop (.DictComp kx vx [⟨tg, iter, ifs, 0⟩] scope pos) 0 (.ref it) (.ref D) env) (compPost (model X.prog X.w) X.A X.xe none (EP X pins σ Q) (.ref D) s3.heap.objs.size) s4 := by
    refine compLoop_anyD (fun n s' => ∃ i H', Inv B [] (wipe σ (own.map (·.2))) H' s' ∧ tn i s'.heap ∧ (∀ b ∈ fp, H' b = none) ∧ W i n H') ?_ m0 ⟨0, H3, I4, st4, none3, w0⟩
    rintro n s5 ⟨i, H5, I5, st5, n5, w5⟩
    rcases turn i n H5 w5 with ⟨stop, qq⟩ | ⟨go, Nx, hNx, step⟩
    · refine thnF (T.done B rfl rfl rfl calm i [] s5 _ H5 (fun _ _ => False) I5 (held I5 n5) st5 stop) fun r s6 y6 => ?_
      obtain ⟨rfl, I6⟩ := y6
      have I7 : Inv X pins σ H5 s6 := by
        refine I3.call' (ch := fp) I6.os I6.base I6.hok I6.bare fun b hb => ?_
        have z := (f3 b hb).1.2
        exact ⟨z.2.2.1, z.1, z.2.2.2.1, z.2.2.2.2⟩
      have nC : H5 s3.heap.objs.size = none := eL ▸ I6.free
      obtain ⟨m, hn, _⟩ := I6.loc
      have fC := I3.fpOk (Nat.le_refl _) nC
      refine ⟨m, eL ▸ hn, fun h2 sb => ?_⟩
      exact ⟨.ref D, H5, I7.turned (t' := s6.toks) (fun b o hb e => (sb.2 b hb).trans e) fC.1 fC.2.1 fC.2.2.2.1 fC.2.2.2.2.1 fC.2.2.2.2.2, rfl, qq⟩
    · refine thnF (T.item B rfl rfl rfl calm i [] s5 _ H5 (fun _ _ => False) I5 (held I5 n5) st5 go) fun r s6 y6 => ?_
      obtain ⟨u, rfl, y6⟩ := y6
      refine thnF y6 fun _ s7 y7 => ?_
      obtain ⟨x, H7, I7, r7, yl, st7, n7⟩ := y7
      have P7 := I7.pinned (held I7 n7) (T.obj _ _ st7)
      refine thnF (g1.run _ s7 _ H7 x u _ P7 r7 (step x H7 yl)) fun _ s8 y8 => ?_
      obtain ⟨σ8, H8, I8, w8, y8⟩ := y8
      refine thnF (g2.run _ s8 σ8 H8 _ I8 y8) fun b s9 y9 => ?_
      obtain ⟨H9, I9, y9⟩ := y9
      have len8 : (wipe σ (own.map (·.2))).length = σ8.length := by rw [← w8, wipe_length]
      have next : ∀ {s' : Shared} {H' : Hp}, Inv B ([] ++ pinsAt fp s7.heap) σ8 H' s' → Nx H' → ∃ m, m < n ∧ ∃ i H', Inv B [] (wipe σ (own.map (·.2))) H' s' ∧ tn i s'.heap ∧ (∀ b ∈ fp, H' b = none) ∧ W i m H' := by
        intro s' H' I' nx
        obtain ⟨k, hk, w'⟩ := hNx H' nx
        have pin : ∀ b ∈ fp, ∀ o, s7.heap.get? b = some o → s'.heap.get? b = some o ∧ H' b = none := by
          intro b hb o e
          have z := I'.pin (b, o) (List.mem_append_right _ (List.mem_append_right _ (mem_pinsAt hb e)))
          exact ⟨z.1, z.2.1⟩
        refine ⟨k, hk, i + 1, H', (I'.unpinned (pins := [])).weak len8 ?_, T.keep _ _ _ st7 fun b hb o e => (pin b hb o e).1, ?_, w'⟩
        · intro j v e
          rw [← w8] at e
          exact (wipe_some e).1
        · intro b hb
          obtain ⟨o, e, _⟩ := T.obj _ _ st7 b hb
          exact (pin b hb o e).2
      cases b with
      | false => exact next I9 y9
      | true =>
        refine thnF (g3.run _ s9 σ8 H9 _ I9 y9) fun z s10 y10 => ?_
        obtain ⟨yk, H10, I10, r10, y10⟩ := y10
        refine thnF (g4.run _ s10 σ8 H10 _ I10 y10) fun z2 s11 y11 => ?_
        obtain ⟨yv, H11, I11, r11, kvs, k, ek, eD11, hz, nx⟩ := y11
        subst ek
        exact n_dictSet (X := B) I11 eD11 hz r10 r11 fun s12 I12 => next I12 nx
  subst eE ecl e4
  exact codeAny_compStart_dict post (T.self X.A 0 _ _ _ st4 post)
end
end KZ
end

section
set_option Elab.async false
set_option linter.all false
set_option maxRecDepth 100000
set_option maxHeartbeats 4000000
/-! the top's run, its plain steps without the looks that say nothing of them -/
noncomputable section
namespace KZ
open PySem PySem.W PySem.Calls PyProof.Rows HandSHeadRun
/-- one step of any kind, with all looks -/
def oneG (st : SharedT → Thread → Option (SharedT × Thread)) (n0 : Nat) (ann : Option Value) (on : SharedT → Thread → Option SharedT) (s : SharedT) (t : Thread) : Option SharedT :=
  match through t with
  | true => some s
  | false => match stepOk n0 ann t with
    | false => none
    | true => match st s t with
      | some (s', t') => frS s' fun s' => on s' t'
      | none => none
/-- what a frame keeps of a call -/
def keptBy (called code : Code) (lv : List Value) : List Value :=
  match called, code with
  | .builtin _ x, _ => unmarked x.refs
  | .call g x, .builtin _ _ => unmarked (if lv.contains borrowed then x.refs else g :: x.refs)
  | .call g x, .call _ _ => unmarked (if lv.contains borrowed then x.refs else g :: x.refs)
  | _, _ => []
/-- one step; on: what follows it -/
def oneH (st : SharedT → Thread → Option (SharedT × Thread)) (den : Code → Sem Fin) (p : Program) (w : World) (n0 : Nat) (ann : Option Value) (on : SharedT → Thread → Option SharedT) : SharedT → Thread → Option SharedT
  | ⟨T, n, life, gens, drawn, toks, os⟩, ⟨cur, code, pos, stack⟩ => match cur with
    | .rule _ k => on ⟨T, n, life, gens, drawn, toks, os⟩ ⟨k (), code, pos, stack⟩
    | .at q k => on ⟨T, n, life, gens, drawn, toks, os⟩ ⟨k (), code, q, stack⟩
    | .point _ k => on ⟨T, n, life, gens, drawn, toks, os⟩ ⟨k (), code, pos, stack⟩
    | .ask k => on ⟨T, n, life, gens, drawn, toks, os⟩ ⟨k ⟨p, w.params⟩, code, pos, stack⟩
    | .fresh k => frNat (toks + 1) fun m => on ⟨T, n, life, gens, drawn, m, os⟩ ⟨k toks, code, pos, stack⟩
    | .load a _ k => match Nat.blt a n with
      | true => match T.get a with
        | some o => match alive o with
          | some u => on ⟨T, n, life, gens, drawn, toks, os⟩ ⟨k u, code, pos, stack⟩
          | none => none
        | none => none
      | false => none
    | .alloc o k => match ((T.ins n o).get n).isSome with
      | true => frNat (n + 1) fun m => on ⟨T.ins n o, m, life, gens, drawn, toks, os⟩ ⟨k n, code, pos, stack⟩
      | false => none
    | .call c h g l k => on ⟨T, n, life, gens, drawn, toks, os⟩ ⟨den c, c, pos, .ret k h g l code pos (keptBy c code l) :: stack⟩
    | .pure (.done f) => match stack with
      | .ret k _ _ _ c p _ :: rest => on ⟨T, n, life, gens, drawn, toks, os⟩ ⟨k (.ok f), c, p, rest⟩
      | [] => some ⟨T, n, life, gens, drawn, toks, os⟩
      | .gen a k l c p :: rest => oneG st n0 ann on ⟨T, n, life, gens, drawn, toks, os⟩ ⟨.pure (.done f), code, pos, .gen a k l c p :: rest⟩
    | .update a _ f k => match Nat.ble n0 a || a == mainNs || a == cStatics || ann == some (.ref a) with
      | true => match Nat.blt a n with
        | true => match T.get a with
          | some o => match alive o with
            | some _ => on ⟨T.set a f, n, life, gens, drawn, toks, os⟩ ⟨k (), code, pos, stack⟩
            | none => none
          | none => none
        | false => none
      | false => none
    | c => oneG st n0 ann on ⟨T, n, life, gens, drawn, toks, os⟩ ⟨c, code, pos, stack⟩
def goH (st : SharedT → Thread → Option (SharedT × Thread)) (den : Code → Sem Fin) (p : Program) (w : World) (n0 : Nat) (ann : Option Value) (m : Nat) : SharedT → Thread → Option SharedT :=
  Nat.rec (motive := fun _ => SharedT → Thread → Option SharedT) (fun _ _ => none) (fun _ on s t => oneH st den p w n0 ann on s t) m
theorem goF_one (st : SharedT → Thread → Option (SharedT × Thread)) (n0 : Nat) (ann : Option Value) (m : Nat) (s : SharedT) (t : Thread) : goF st n0 ann (m + 1) s t = oneG st n0 ann (goF st n0 ann m) s t := rfl
theorem oneG_mono {st : SharedT → Thread → Option (SharedT × Thread)} {n0 : Nat} {ann : Option Value} {f g : SharedT → Thread → Option SharedT} (h : ∀ s t r, f s t = some r → g s t = some r) {s : SharedT} {t : Thread} {r : SharedT} (e : oneG st n0 ann f s t = some r) : oneG st n0 ann g s t = some r := by
  unfold oneG at e ⊢
  cases a : through t with
  | true => rw [a] at e; exact e
  | false =>
    rw [a] at e
    cases b : stepOk n0 ann t with
    | false => rw [b] at e; cases e
    | true =>
      rw [b] at e
      cases c : st s t with
      | none => rw [c] at e; cases e
      | some x =>
        rw [c] at e
        obtain ⟨s2, t2⟩ := x
        simp only [frS_eq] at e ⊢
        exact h _ _ _ e
/-- a step that wants no look -/
theorem oneG_plain {den : Code → Sem Fin} {p : Program} {w : World} {n0 : Nat} {ann : Option Value} {g : SharedT → Thread → Option SharedT} {s s2 r : SharedT} {t t2 : Thread} (h1 : through t = false) (h2 : stepOk n0 ann t = true) (h3 : stepT den p w s t = some (s2, t2)) (e : g s2 t2 = some r) :
    oneG (stepT den p w) n0 ann g s t = some r := by
  unfold oneG
  rw [h1, h2, h3]
  simp only [frS_eq]
  exact e
theorem oneH_ok {den : Code → Sem Fin} {p : Program} {w : World} {n0 : Nat} {ann : Option Value} {f g : SharedT → Thread → Option SharedT} (h : ∀ s t r, f s t = some r → g s t = some r) {s : SharedT} {t : Thread} {r : SharedT} (e : oneH (stepT den p w) den p w n0 ann f s t = some r) :
    oneG (stepT den p w) n0 ann g s t = some r := by
  obtain ⟨T, n, life, gens, drawn, toks, os⟩ := s
  obtain ⟨cur, code, pos, stack⟩ := t
  have no : ∀ c : Sem Fin, (∀ x, c ≠ .pure x) → through ⟨c, code, pos, stack⟩ = false := by
    intro c hc
    unfold through
    cases c <;> first | exact Bool.and_false _ | exact absurd rfl (hc _)
  cases cur with
  | rule tag k => exact oneG_plain (no _ fun _ z => nomatch z) rfl rfl (h _ _ _ e)
  | «at» q k => exact oneG_plain (no _ fun _ z => nomatch z) rfl rfl (h _ _ _ e)
  | point l k => exact oneG_plain (no _ fun _ z => nomatch z) rfl rfl (h _ _ _ e)
  | ask k => exact oneG_plain (no _ fun _ z => nomatch z) rfl rfl (h _ _ _ e)
  | fresh k =>
    have e1 : (frNat (toks + 1) fun m => f ⟨T, n, life, gens, drawn, m, os⟩ ⟨k toks, code, pos, stack⟩) = some r := e
    rw [frNat_eq] at e1
    exact oneG_plain (no _ fun _ z => nomatch z) rfl rfl (h _ _ _ e1)
  | load a q k =>
    have e1 : (match Nat.blt a n with
      | true => match T.get a with
        | some o => match alive o with
          | some u => f ⟨T, n, life, gens, drawn, toks, os⟩ ⟨k u, code, pos, stack⟩
          | none => none
        | none => none
      | false => none) = some r := e
    cases a1 : Nat.blt a n with
    | false => rw [a1] at e1; cases e1
    | true =>
      rw [a1] at e1
      cases a2 : T.get a with
      | none => simp only [a2] at e1; cases e1
      | some o =>
        simp only [a2] at e1
        cases a3 : alive o with
        | none => simp only [a3] at e1; cases e1
        | some u =>
          simp only [a3] at e1
          refine oneG_plain (no _ fun _ z => nomatch z) rfl ?_ (h _ _ _ e1)
          simp only [stepT, a1, a2, a3]
  | alloc o k =>
    have e1 : (match ((T.ins n o).get n).isSome with
      | true => frNat (n + 1) fun m => f ⟨T.ins n o, m, life, gens, drawn, toks, os⟩ ⟨k n, code, pos, stack⟩
      | false => none) = some r := e
    cases a1 : ((T.ins n o).get n).isSome with
    | false => rw [a1] at e1; cases e1
    | true =>
      rw [a1] at e1
      simp only [frNat_eq] at e1
      refine oneG_plain (no _ fun _ z => nomatch z) rfl ?_ (h _ _ _ e1)
      simp only [stepT, a1]
  | call c hh g l k => exact oneG_plain (no _ fun _ z => nomatch z) rfl rfl (h _ _ _ e)
  | update a q f k =>
    cases a0 : (Nat.ble n0 a || a == mainNs || a == cStatics || ann == some (.ref a)) with
    | false => simp only [oneH, a0] at e; cases e
    | true =>
      cases a1 : Nat.blt a n with
      | false => simp only [oneH, a0, a1] at e; cases e
      | true =>
        cases a2 : T.get a with
        | none => simp only [oneH, a0, a1, a2] at e; cases e
        | some o =>
          cases a3 : alive o with
          | none => simp only [oneH, a0, a1, a2, a3] at e; cases e
          | some u =>
            simp only [oneH, a0, a1, a2, a3] at e
            refine oneG_plain (no _ fun _ z => nomatch z) ?_ ?_ (h _ _ _ e)
            · show (_ && (Nat.ble n0 a || a == mainNs || a == cStatics || ann == some (.ref a))) = true
              rw [a0]
              rfl
            · simp only [stepT, a1, a2, a3]
  | pure x =>
    cases x with
    | again c => exact oneG_mono h e
    | done f =>
      cases stack with
      | nil => exact e
      | cons fr rest =>
        cases fr with
        | gen a k l c p => exact oneG_mono h e
        | ret k a b l c p kp => exact oneG_plain rfl rfl rfl (h _ _ _ e)
  | _ => exact oneG_mono h e
theorem goH_ok {den : Code → Sem Fin} {p : Program} {w : World} {n0 : Nat} {ann : Option Value} : ∀ (m : Nat) {s : SharedT} {t : Thread} {r : SharedT}, goH (stepT den p w) den p w n0 ann m s t = some r → goF (stepT den p w) n0 ann m s t = some r
  | 0, _, _, _, e => nomatch (show (none : Option SharedT) = some _ from e)
  | m + 1, s, t, r, e => by
    rw [goF_one]
    exact oneH_ok (fun s t r => goH_ok m) e
/-- the state behind the top, from the boot -/
def endH (M : Nat) (p : Program) (w : World) (os : OsState) : Option SharedT := match putAll (boot_heap w.params).objs.toList .nil 0 with
  | some (t, n) => frNat n fun n0 => goH (stepQ (denQ tabQ) p w) (denQ tabQ) p w n0 (bootAnn w) M (bootT w os (t, n0)) (topStub p)
  | none => none
theorem endH_ok {M : Nat} {p : Program} {w : World} {os : OsState} {r : SharedT} (e : endH M p w os = some r) : endF (stepQ (denQ tabQ) p w) M p w os = some r := by
  unfold endH at e
  unfold endF
  rw [← stepQ_eq] at e ⊢
  cases a : putAll (boot_heap w.params).objs.toList .nil 0 with
  | none => rw [a] at e; cases e
  | some x =>
    rw [a] at e
    obtain ⟨t, n⟩ := x
    simp only [frNat_eq] at e ⊢
    exact goH_ok M e
/-- what is seen behind it -/
theorem endH_map {α : Type} {M : Nat} {p : Program} {w : World} {os : OsState} {F : SharedT → α} {v : α} (e : (endH M p w os).map F = some v) : ∃ r, endF (stepQ (denQ tabQ) p w) M p w os = some r ∧ F r = v := by
  obtain ⟨r, h1, h2⟩ := Option.map_eq_some_iff.mp e
  exact ⟨r, endH_ok h1, h2⟩
end KZ
end

section
set_option Elab.async false
set_option linter.all false
set_option maxRecDepth 100000
set_option maxHeartbeats 4000000
/-! == and != by an own __eq__, whatever it answers, whatever the other value is -/
namespace KZ
open PySem PySem.Spec PyProof.Rows L2
section
variable {prog : Program} {w : World} {A : Around} {E : Value → Shared → Prop} {s : Shared} {K : PySem.W.Frag} {x C f : Addr} {ox : Obj} {od : Option Obj} {b tb : Value}
/-- object.__ne__ of an instance with an own __eq__ -/
theorem ne_try {Q : Option Value → Shared → Prop} (hu : A.units + 1 < cLine) (X : K.In s.heap) (I : PySem.W.InstAt s.heap x ox C od) (hne : PySem.W.findIn K (.ref C) "__ne__" = some (some (.builtin "object.__ne__"))) (hob : PySem.W.mroIn K C (.type "object") = some true)
    (hs : PySem.W.findIn K (.ref C) "__eq__" = some (some (.ref f))) (hf : PySem.W.isFn K (.ref f) = true)
    (h : wpAny (model prog w) A.in1 (call (.ref f) [.ref x, b]) (fun v s' => ∃ r, v = .bool r ∧ Q (some (.bool (!r))) s') E s) : wpAny (model prog w) A (tryCompare (.ref x) "__ne__" b) Q E s := by
  have ins : PySem.W.Looks (model prog w) s.heap (isInstance (.ref x) (.type "object")) true := I.type.andThen (PySem.W.looks_subIn X (t := .ref C) hob)
  have body : wpAny (model prog w) A.in1 (Builtin.«object.__ne__» ⟨[.ref x, b], []⟩) (fun fin s' => match fin with
      | .done fl => ∃ v, fl = .ret v ∧ ∃ r, v = .bool (!r) ∧ Q (some (.bool (!r))) s'
      | .again _ => False) E s := by
    unfold Builtin.«object.__ne__»
    refine wpAny_bind (wpAny_pure ?_)
    refine wpAny_bind (wpAny_cRoomFor hu ?_)
    refine wpAny_bind (PySem.W.ifBound_K (args := [b]) X I hs hf (wpAny_mono h (fun v s' hv => ?_) fun _ _ e => e))
    obtain ⟨r, rfl, q⟩ := hv
    refine wpAny_bind (wpAny_truthy_bool ?_)
    exact wpAny_pure ⟨_, rfl, r, rfl, q⟩
  unfold tryCompare
  refine wpAny_bind ?_
  simp only [callSpecialIfBound?, bindSpecialIfBound?]
  refine wpAny_holding (wpAny_bind (wpAny_bind (wpAny_bind (I.type.here ((PySem.W.looks_findIn X hne).here ?_)))))
  simp only [F.cmp_object.ne.bind]
  have fin : wpAny (model prog w) A (call (.builtin "object.__ne__") ([.ref x] ++ [b]) >>= fun v => pure (some v)) (fun v s' => wpAny (model prog w) A (match v with
      | some .notImplemented | none => pure none
      | some v => pure (some v)) Q E s') E s := by
    refine wpAny_bind (wpAny_call (codeAny_call_builtin F.cmp_object.ne.plain F.cmpEntry_ne (PySem.W.check_slot F.cmpKind_ne F.cmpSplit_ne ins (F.cmpArgs_ne _ _) (wpAny_mono body (fun fl s' hq => ?_) fun _ _ e => e))))
    cases fl with
    | again c => exact hq.elim
    | done fl =>
      obtain ⟨v, rfl, r, rfl, q⟩ := hq
      exact wpAny_pure (wpAny_pure q)
  refine wpAny_bind (wpAny_askSetting (wpAny_ite ?_))
  split
  · exact wpAny_bind (wpAny_pure (wpAny_pure fin))
  · exact wpAny_tryCatch (wpAny_bind (wpAny_pure (wpAny_pure fin)))
/-- x != b, x an instance with an own __eq__ and no own __ne__ -/
theorem ne_own {Q : Value → Shared → Prop} (hu : A.units + 1 < cLine) (X : K.In s.heap) (I : PySem.W.InstAt s.heap x ox C od) (hb : PySem.W.Looks (model prog w) s.heap (typeOf b) tb) (hn : PySem.W.notFirst K C tb = true)
    (hne : PySem.W.findIn K (.ref C) "__ne__" = some (some (.builtin "object.__ne__"))) (hob : PySem.W.mroIn K C (.type "object") = some true) (hs : PySem.W.findIn K (.ref C) "__eq__" = some (some (.ref f))) (hf : PySem.W.isFn K (.ref f) = true)
    (h : wpAny (model prog w) A.in1 (call (.ref f) [.ref x, b]) (fun v s' => ∃ r, v = .bool r ∧ Q (.bool (!r)) s') E s) : wpAny (model prog w) A (richCompare .NotEq (.ref x) b) Q E s := by
  have t := ne_try (Q := fun v s' => ∃ z, v = some z ∧ Q z s') hu X I hne hob hs hf (wpAny_mono h (fun v s' ⟨r, e, q⟩ => ⟨r, e, _, rfl, q⟩) fun _ _ e => e)
  unfold richCompare
  simp only [oneThing_ref]
  refine wpAny_holding (wpAny_bind (wpAny_cRoomFor (Nat.lt_of_succ_lt hu) ?_))
  refine wpAny_bind (I.type.here (wpAny_bind (hb.here ?_)))
  have last : wpAny (model prog w) A (tryCompare (.ref x) "__ne__" b) (fun r s' => ∃ v, r = some v ∧ wpAny (model prog w) A (pure v) Q E s') E s :=
    wpAny_mono t (fun r s' ⟨v, e, q⟩ => ⟨v, e, wpAny_pure q⟩) fun _ _ e => e
  split
  · rename_i q
    have e : PySem.W.subIn K tb (.ref C) = some false := by
      rcases Bool.or_eq_true_iff.mp hn with z | z
      · have z2 := beq_iff_eq.mp z
        subst z2
        simp at q
      · exact beq_iff_eq.mp z
    refine wpAny_bind ((PySem.W.looks_subIn X e).here ?_)
    simp only [Bool.false_eq_true, if_false]
    refine wpAny_bind (wpAny_mono last (fun r s' hr => ?_) fun _ _ e => e)
    obtain ⟨v, rfl, qv⟩ := hr
    exact qv
  · refine wpAny_bind (wpAny_pure ?_)
    simp only [Bool.false_eq_true, if_false]
    refine wpAny_bind (wpAny_mono last (fun r s' hr => ?_) fun _ _ e => e)
    obtain ⟨v, rfl, qv⟩ := hr
    exact qv
end
/-! the rules -/
section
variable {X : Cx} {pins : List (Addr × Obj)} {σ : L2.St} {H : Hp} {s : Shared}
theorem ty_look {y : V} {u t : Value} (I : Inv X pins σ H s) (r : RelV y u) (ty : TyOf X.K H y t) (M : Model) : PySem.W.Looks M s.heap (typeOf u) t := by
  have at_ : ∀ {a : Addr} {o : Obj}, s.heap.get? a = some o → PySem.W.Looks M s.heap (typeOf (.ref a)) o.cls := fun h A Q E s2 k q => wpAny_typeOf_ref (k _ _ h) q
  cases ty with
  | non => cases (show u = Value.none from r); exact PySem.W.Looks.of_pure rfl
  | bl z => cases (show u = Value.bool z from r); exact PySem.W.Looks.of_pure rfl
  | int i => obtain ⟨k, e⟩ := (show ∃ k, u = Value.int i k from r); subst e; exact PySem.W.Looks.of_pure rfl
  | str z => obtain ⟨k, e⟩ := (show ∃ k, u = Value.str z k from r); subst e; exact PySem.W.Looks.of_pure rfl
  | flt z => obtain ⟨k, e⟩ := (show ∃ k, u = Value.float z k from r); subst e; exact PySem.W.Looks.of_pure rfl
  | @lst a xs ea =>
    cases (show u = Value.ref a from r)
    obtain ⟨_, _, n, _, h1⟩ := (show ObjOk X.prog X.w H s.heap a (.lst xs) from I.hok a _ ea)
    exact at_ h1
  | @frz a ob xs ea =>
    cases (show u = Value.ref a from r)
    obtain ⟨_, _, _, n, _, h1⟩ := (show ObjOk X.prog X.w H s.heap a (.frz ob (.lst xs)) from I.hok a _ ea)
    exact at_ h1
  | @tup a xs ea =>
    cases (show u = Value.ref a from r)
    obtain ⟨_, _, _, o, h1, h2, _⟩ := (show ObjOk X.prog X.w H s.heap a (.tup xs) from I.hok a _ ea)
    exact h2 ▸ at_ h1
  | @dK a kvs ea =>
    cases (show u = Value.ref a from r)
    obtain ⟨_, _, vs, _, o, es, ep, h1, h2, _⟩ := (show ObjOk X.prog X.w H s.heap a (.dK kvs) from I.hok a _ ea)
    exact h2.1 ▸ at_ h1
  | @dT a kvs ea =>
    cases (show u = Value.ref a from r)
    obtain ⟨_, _, vs, _, o, es, ep, h1, h2, _⟩ := (show ObjOk X.prog X.w H s.heap a (.dT kvs) from I.hok a _ ea)
    exact h2.1 ▸ at_ h1
  | @ins a D dx fs ea =>
    cases (show u = Value.ref a from r)
    obtain ⟨mA, J, _⟩ := ins_get I.hok ea
    obtain ⟨od, J, _⟩ := J.look
    exact J.type
/-- what the own == is asked of two values; neg: its opposite is wanted -/
def rOwn (K : PySem.W.Frag) (C : Addr) (sp : Sp) (E : XK) (neg : Bool) : R2 := fun x y H Q => ∃ a dx fs t, x = .ref a ∧ H a = some (.ins C dx fs) ∧ TyOf K H y t ∧ PySem.W.notFirst K C t = true ∧
  sp [x, y] H (fun v H' => ∃ r : Bool, v = .bl r ∧ Q (.bl (neg != r)) H') E
theorem run_own {CX : CXT} {n : Nat} {f : Addr} {fd : FuncData} {ps : List Str} {sp : Sp} {E : XK} {A : Around} {us : List Value} {vs : List V} {Q : VK} (F : FnOk X.prog X.w X.K X.mg X.base CX n f fd ps sp) (hb : Binds X.K fd ps []) (hx : Passes CX X E) (sb : Sub X n A)
    (I : Inv X pins σ H s) (r : Vals vs us) (h : sp vs H Q E) : wpAny (model X.prog X.w) A (call (.ref f) us) (EP X pins σ Q) X.xe s := by
  have e0 : Env0 X.prog X.w X.K X.mg X.base A X.stack s H := by
    have e := I.env0
    refine ⟨?_, e.mod, e.bs, e.bsz, e.funs, e.frf, e.hok, e.bare⟩
    rw [sb.fr]
    exact e.frames
  have hl := F.len _ _ _ _ h
  have bd : BindsTo s fd ⟨us, []⟩ (ps.zip us) := by
    have z := hb s us I.kIn (by rw [List.append_nil, ← r.length]; exact hl)
    rw [List.append_nil] at z
    exact z
  refine wpAny_call (codeAny_mono (F.run A X.stack s H ⟨us, []⟩ us vs Q E sb.room e0 bd r h) fun res s' hq => ?_)
  cases res with
  | error e => exact hx pins σ H s e s' I hq
  | ok fl =>
    cases fl with
    | ret u =>
      obtain ⟨v, H', I', rv, q⟩ := I.after hq
      exact ⟨v, H', I', rv, q⟩
    | next => exact False.elim hq
    | brk => exact False.elim hq
    | cont => exact False.elim hq
structure OwnEqF (K : PySem.W.Frag) (C f : Addr) (fd : FuncData) (ps : List Str) : Prop where
  eq : PySem.W.findIn K (.ref C) "__eq__" = some (some (.ref f))
  fn : PySem.W.isFn K (.ref f) = true
  ne : PySem.W.findIn K (.ref C) "__ne__" = some (some (.builtin "object.__ne__"))
  ob : PySem.W.mroIn K C (.type "object") = some true
  b : Binds K fd ps []
section
variable {CX : CXT} {n : Nat} {C f : Addr} {fd : FuncData} {ps : List Str} {sp : Sp} {E : XK}
theorem op_eqO (F : FnOk X.prog X.w X.K X.mg X.base CX n f fd ps sp) (O : OwnEqF X.K C f fd ps) (hx : Passes CX X E) (hr : Room n X.A) : OpR X (compareOp .Eq) (rOwn X.K C sp E false) := by
  intro pins s σ H x y u v Q I rx ry hq
  obtain ⟨a, dx, fs, t, ex, ha, ty, nf, h⟩ := hq
  subst ex
  cases (show u = Value.ref a from rx)
  obtain ⟨mA, J, _⟩ := ins_get I.hok ha
  obtain ⟨od, J, _⟩ := J.look
  obtain ⟨m, hF⟩ := I.fr
  show wpAny (model X.prog X.w) X.A (richCompare .Eq (.ref a) v) (EP X pins σ Q) X.xe s
  refine PySem.W.cmp_K (op := .Eq) (tb := t) hr.units0 hF I.ok.mod.kin J (ty_look I ry ty _) nf O.eq O.fn ?_
  refine wpAny_mono (run_own F O.b hx ⟨hr, rfl⟩ I (.cons rx (.cons ry .nil)) h) (fun z s' hz => ?_) fun _ _ e => e
  obtain ⟨_, H', I', rz, r, rfl, q⟩ := hz
  cases (show z = Value.bool r from rz)
  exact ⟨.bl r, H', I', rfl, by cases r <;> exact q⟩
theorem op_neO (F : FnOk X.prog X.w X.K X.mg X.base CX n f fd ps sp) (O : OwnEqF X.K C f fd ps) (hx : Passes CX X E) (hr : Room (n + 1) X.A) : OpR X (compareOp .NotEq) (rOwn X.K C sp E true) := by
  intro pins s σ H x y u v Q I rx ry hq
  obtain ⟨a, dx, fs, t, ex, ha, ty, nf, h⟩ := hq
  subst ex
  cases (show u = Value.ref a from rx)
  obtain ⟨mA, J, _⟩ := ins_get I.hok ha
  obtain ⟨od, J, _⟩ := J.look
  show wpAny (model X.prog X.w) X.A (richCompare .NotEq (.ref a) v) (EP X pins σ Q) X.xe s
  refine ne_own (tb := t) (by have := hr.units; omega) I.kIn J (ty_look I ry ty _) nf O.ne O.ob O.eq O.fn ?_
  have sb : Sub X (n + 1) X.A := ⟨hr, rfl⟩
  refine wpAny_mono (run_own F O.b hx sb.in1 I (.cons rx (.cons ry .nil)) h) (fun z s' hz => ?_) fun _ _ e => e
  obtain ⟨_, H', I', rz, r, rfl, q⟩ := hz
  cases (show z = Value.bool r from rz)
  exact ⟨r, rfl, .bl (!r), H', I', rfl, by cases r <;> exact q⟩
end
end
end KZ
end

section
set_option Elab.async false
set_option linter.all false
set_option maxRecDepth 100000
set_option maxHeartbeats 4000000
/-! o.m(k = v, ..); a promise that lets nothing out -/
namespace KZ
open PySem PySem.Spec PyProof.Rows L2
section
variable {X : Cx} {cx : CXT} {k : Nat} {f C : Addr} {fd : FuncData} {ps ks : List Str} {sp : Sp} {E : XK} {m : Str} {o : Expr} {ta : TE} {apos pos : Pos} {kws : List Keyword} {tk : TA} {g : List Value → List Value → List Value} {gV : List V → List V → List V}
def tMethK (C : Addr) (m : Str) (sp : Sp) (gV : List V → List V → List V) (E : XK) (ta : TE) (tk : TA) : TE := fun σ H Q => ta σ H fun x H1 => ∃ a dx fs, x = .ref a ∧ H1 a = some (.ins C dx fs) ∧ fs.lookup m = none ∧ tk σ H1 fun zs H2 => sp (gV [x] zs) H2 Q E
theorem pe_methK0 {pl : Sem Bool} (he : PE X o ta) (c : Cls X.K C) (hm : Meth X.K C m f) (F : FnOk X.prog X.w X.K X.mg X.base cx k f fd ps sp) (hr : Room k X.A) (hb : KBinds X.K fd ps ks g gV) (hx : Passes cx X E) (hkw : PK X kws tk)
    (hall : (backToKw pos (keywordEach kws X.env)).all (·.1.isSome) = true := by rfl) (hks : (backToKw pos (keywordEach kws X.env)).filterMap (·.1) = ks := by rfl)
    (hpl : ((backTo pos (starEach [] X.env)).any (·.1) || (backToKw pos (keywordEach kws X.env)).any (·.1.isNone)) = false := by rfl)
    (ht : eval (.Call (.Attribute o m apos) [] kws pos) X.env = (do
      let ov ← eval o X.env
      standAt apos.atName
      let (f, first) ← holding [ov] (getMethod ov m pl)
      callWith pos f first (backTo pos (starEach [] X.env)) (backToKw pos (keywordEach kws X.env))) := by rfl) :
    PE X (.Call (.Attribute o m apos) [] kws pos) (tMethK C m sp gV E ta tk) := by
  refine ⟨fun pins s σ H Q I h => ?_⟩
  refine PySem.W.methodCall_KW (pl := pl) (thn (he.run pins s σ H _ I h) fun u s1 ⟨x, H1, I1, rx, a, dx, fs, ex, ea, l, q⟩ => ?_) ht
  subst ex
  obtain rfl : u = Value.ref a := rx
  refine getmeth_ok I1 ea c hm l ?_
  refine PySem.W.callWith_KW0 (first := [.ref a]) (h₀ := X.base) I.ok.mod.kin hm.kp hall (thn (hkw.run pos pins s1 σ H1 _ I1 q) fun ws s2 ⟨zs, H2, I2, rz, q2⟩ => ⟨I2.kIn, ?_⟩) hpl
  rw [hks]
  exact run_fnk (us := [.ref a]) (vs := [.ref a]) F hr hb hx I2 (.cons rfl .nil) rz q2
end
section
variable {P : Program} {w : World} {K : PySem.W.Frag} {mg : Str → Option Value} {base : Heap} {k : Nat} {f : Addr} {fd : FuncData} {ps : List Str} {sp : Sp}
/-- where nothing is let out -/
theorem FnOk.x0 (F : FnOk P w K mg base (L2.CX P w) k f fd ps sp) : FnOk P w K mg base CX0 k f fd ps (fun vs H Q _ => sp vs H Q fun _ _ _ => False) :=
  ⟨fun vs H Q E h => F.len vs H Q _ h, fun A outer s H args us vs Q E hr he hb hv hs => codeAny_mono (F.run A outer s H args us vs Q _ hr he hb hv hs) fun r s' hq => by
    cases r with
    | error e =>
      obtain ⟨_, _, _, _, _, _, _, _, _, _, _, _, h⟩ := hq
      exact h.elim
    | ok fl => cases fl <;> exact hq⟩
end
end KZ
end

section
set_option Elab.async false
set_option linter.all false
set_option maxRecDepth 100000
set_option maxHeartbeats 4000000
/-! y = {k: v for .. in ..}, None among its keys, y a local name -/
namespace KZ
open PySem PySem.Spec PyProof.Rows L2
section
variable {X : Cx}
/-- the dict's making, whatever is done with it before the block is left -/
theorem dcn_core {pins : List (Addr × Obj)} {s : Shared} {σ : L2.St} {H : Hp} {Q : VK} {kx vx tg iter : Expr} {ifs : List Expr} {scope : Scope} {own : List (Str × Nat)} {pos pos' : Pos} {wi : TI} {g : TG} {tt : TT} {tk tv : TE} {use : Option (Value → Sem Unit)} {Qf : Value → Shared → Prop} (calm : X.calm = true) (nd : X.N.Nodup) (I : Inv X pins σ H s) (it_ : PI X tg iter wi) (blk : BlkOk X.N X.env.scope scope own)
    (p1 : ∀ (s : Shared) (H : Hp) (C : Addr) (cl : List (Str × Addr)) (fp : List Addr), PG (X.blk s H scope (compEnvC scope cl C X.env) fp) tg g)
    (p2 : ∀ (s : Shared) (H : Hp) (C : Addr) (cl : List (Str × Addr)) (fp : List Addr), PTs (X.blk s H scope (compEnvC scope cl C X.env) fp) ifs tt)
    (p3 : ∀ (s : Shared) (H : Hp) (C : Addr) (cl : List (Str × Addr)) (fp : List Addr), PE (X.blk s H scope (compEnvC scope cl C X.env) fp) kx tk)
    (p4 : ∀ (s : Shared) (H : Hp) (C : Addr) (cl : List (Str × Addr)) (fp : List Addr), PE (X.blk s H scope (compEnvC scope cl C X.env) fp) vx tv)
    (fold : ∀ x, foldedSetIterable iter X.env x = pure x) (hQ : tDn X wi g tt tk tv (own.map (·.2)) σ H Q)
    (fin : ∀ D C s' m H', Inv X pins σ H' s' → Q (.ref D) H' → s'.heap.Ns C m → FpOk X pins H' C → compPost (model X.prog X.w) X.A X.xe use Qf (.ref D) C (.ok .next) s') :
    wpAny (model X.prog X.w) X.A (comprehension (.DictComp kx vx [⟨tg, iter, ifs, 0⟩] scope pos) scope X.env pos' newDict false (eval iter X.env) use) Qf X.xe s := by
  have free_ : ∀ y ∈ scope.names, y.2 = .free → ∃ c, X.env.cells.lookup y.1 = some c := by
    intro y hy e
    exact I.ok.has _ (blk.free y hy e)
  refine wpAny_comprehension_free (use := use) rfl fold (closure_ok free_) blk.kind (fun y hy e => by rw [blk.uniq y hy, e]) (thn (it_.run pins s σ H _ I hQ) fun xv s1 y1 => thn y1 fun itv s2 y2 => ?_)
  obtain ⟨it, fp, tn, J, H2, rfl, I2, T, st2, f2, q⟩ := y2
  refine wpAny_newObj_type (newEnv_comp ?_)
  generalize eD : s2.heap.objs.size = D
  obtain ⟨W, ⟨m0, w0⟩, turn⟩ := q D (I2.hok.fresh (Nat.le_of_eq eD))
  generalize e3 : ({ s2 with heap := s2.heap.push { cls := .type "dict", data := .dict #[] } } : Shared) = s3
  have heap3 : s3.heap = s2.heap.push { cls := .type "dict", data := .dict #[] } := e3 ▸ rfl
  generalize eH : upd H2 D (DN X.prog X.w D []) = H3 at w0
  have I3 : Inv X pins σ H3 s3 := by
    subst e3 eH eD
    exact I2.laid (t' := s2.toks) (fun b o e => Heap.get?_push_of_some _ e) (Nat.le_refl _) (dn_empty s2.heap I2.big)
  have low : ∀ b ∈ fp, b < s2.heap.objs.size := by
    intro b hb
    obtain ⟨o, e, _⟩ := T.obj _ _ st2 b hb
    exact Heap.lt_size e
  have f3 : ∀ b ∈ fp, FpOk X pins H3 b ∧ b < s3.heap.objs.size := by
    intro b hb
    have l := low b hb
    have z := f2 b hb
    refine ⟨⟨?_, z.2⟩, ?_⟩
    · rw [← eH, upd_ne (fun y => Nat.lt_irrefl _ (by rw [y, eD] at l; exact l))]
      exact z.1
    · rw [heap3, Heap.size_push]
      exact Nat.lt_succ_of_lt l
  have st3 : tn 0 s3.heap := T.keep _ _ _ st2 fun b _ o e => heap3 ▸ Heap.get?_push_of_some _ e
  have none3 : ∀ b ∈ fp, H3 b = none := fun b hb => (f3 b hb).1.1
  have I4 := block_start I3 blk nd f3
  generalize ecl : cellsFrom (s3.heap.objs.size + 1) scope.names (cloFrom X.env.cells scope.names []) = cl at I4
  have g1 := p1 s3 H3 s3.heap.objs.size cl fp
  have g2 := p2 s3 H3 s3.heap.objs.size cl fp
  have g3 := p3 s3 H3 s3.heap.objs.size cl fp
  have g4 := p4 s3 H3 s3.heap.objs.size cl fp
  have eL : (compEnvC scope cl s3.heap.objs.size X.env).locals = s3.heap.objs.size := rfl
  generalize eE : compEnvC scope cl s3.heap.objs.size X.env = env at I4 g1 g2 g3 g4 eL
  generalize e4 : ({ s3 with heap := pushCells (s3.heap.push { cls := .type "dict", data := .dict #[] }) scope.names } : Shared) = s4 at I4
  have st4 : tn 0 s4.heap := T.keep _ _ _ st3 fun b _ o e => e4 ▸ pushCells_keeps _ _ _ _ (Heap.get?_push_of_some _ e)
  let B := X.blk s3 H3 scope env fp
  have held : ∀ {σ' : L2.St} {H' : Hp} {s' : Shared}, Inv B [] σ' H' s' → (∀ b ∈ fp, H' b = none) → ∀ b ∈ fp, FpOk B [] H' b := by
    intro σ' H' s' J' n b hb
    have z := J'.ok.exf b hb
    exact ⟨n b hb, z.1, J'.ok.exfs b hb, .inl hb, fun x c e => z.2 x c e, fun p hp => nomatch (show p ∈ ([] : List (Addr × Obj)) from hp)⟩
  have post : codeAny (model X.prog X.w) X.A (.compLoop (.DictComp kx vx [⟨tg, iter, ifs, 0⟩] scope pos) 0 (.ref it) (.ref D) env) (compPost (model X.prog X.w) X.A X.xe use Qf (.ref D) s3.heap.objs.size) s4 := by
    refine compLoop_anyD (fun n s' => ∃ i H', Inv B [] (wipe σ (own.map (·.2))) H' s' ∧ tn i s'.heap ∧ (∀ b ∈ fp, H' b = none) ∧ W i n H') ?_ m0 ⟨0, H3, I4, st4, none3, w0⟩
    rintro n s5 ⟨i, H5, I5, st5, n5, w5⟩
    rcases turn i n H5 w5 with ⟨stop, qq⟩ | ⟨go, Nx, hNx, step⟩
    · refine thnF (T.done B rfl rfl rfl calm i [] s5 _ H5 (fun _ _ => False) I5 (held I5 n5) st5 stop) fun r s6 y6 => ?_
      obtain ⟨rfl, I6⟩ := y6
      have I7 : Inv X pins σ H5 s6 := by
        refine I3.call' (ch := fp) I6.os I6.base I6.hok I6.bare fun b hb => ?_
        have z := (f3 b hb).1.2
        exact ⟨z.2.2.1, z.1, z.2.2.2.1, z.2.2.2.2⟩
      have nC : H5 s3.heap.objs.size = none := eL ▸ I6.free
      obtain ⟨m, hn, _⟩ := I6.loc
      exact fin D s3.heap.objs.size s6 m H5 I7 qq (eL ▸ hn) (I3.fpOk (Nat.le_refl _) nC)
    · refine thnF (T.item B rfl rfl rfl calm i [] s5 _ H5 (fun _ _ => False) I5 (held I5 n5) st5 go) fun r s6 y6 => ?_
      obtain ⟨u, rfl, y6⟩ := y6
      refine thnF y6 fun _ s7 y7 => ?_
      obtain ⟨x, H7, I7, r7, yl, st7, n7⟩ := y7
      have P7 := I7.pinned (held I7 n7) (T.obj _ _ st7)
      refine thnF (g1.run _ s7 _ H7 x u _ P7 r7 (step x H7 yl)) fun _ s8 y8 => ?_
      obtain ⟨σ8, H8, I8, w8, y8⟩ := y8
      refine thnF (g2.run _ s8 σ8 H8 _ I8 y8) fun b s9 y9 => ?_
      obtain ⟨H9, I9, y9⟩ := y9
      have len8 : (wipe σ (own.map (·.2))).length = σ8.length := by rw [← w8, wipe_length]
      have next : ∀ {s' : Shared} {H' : Hp}, Inv B ([] ++ pinsAt fp s7.heap) σ8 H' s' → Nx H' → ∃ m, m < n ∧ ∃ i H', Inv B [] (wipe σ (own.map (·.2))) H' s' ∧ tn i s'.heap ∧ (∀ b ∈ fp, H' b = none) ∧ W i m H' := by
        intro s' H' I' nx
        obtain ⟨k, hk, w'⟩ := hNx H' nx
        have pin : ∀ b ∈ fp, ∀ o, s7.heap.get? b = some o → s'.heap.get? b = some o ∧ H' b = none := by
          intro b hb o e
          have z := I'.pin (b, o) (List.mem_append_right _ (List.mem_append_right _ (mem_pinsAt hb e)))
          exact ⟨z.1, z.2.1⟩
        refine ⟨k, hk, i + 1, H', (I'.unpinned (pins := [])).weak len8 ?_, T.keep _ _ _ st7 fun b hb o e => (pin b hb o e).1, ?_, w'⟩
        · intro j v e
          rw [← w8] at e
          exact (wipe_some e).1
        · intro b hb
          obtain ⟨o, e, _⟩ := T.obj _ _ st7 b hb
          exact (pin b hb o e).2
      cases b with
      | false => exact next I9 y9
      | true =>
        refine thnF (g3.run _ s9 σ8 H9 _ I9 y9) fun z s10 y10 => ?_
        obtain ⟨yk, H10, I10, r10, y10⟩ := y10
        refine thnF (g4.run _ s10 σ8 H10 _ I10 y10) fun z2 s11 y11 => ?_
        obtain ⟨yv, H11, I11, r11, kvs, k, ek, eD11, hz, nx⟩ := y11
        subst ek
        exact n_dictSet (X := B) I11 eD11 hz r10 r11 fun s12 I12 => next I12 nx
  subst eE ecl e4
  exact codeAny_compStart_dict post (T.self X.A 0 _ _ _ st4 post)

theorem ps_setDcN {i : Nat} {y : Str} {py : Pos} {kx vx tg iter : Expr} {ifs : List Expr} {scope : Scope} {own : List (Str × Nat)} {pos spos : Pos} {wi : TI} {g : TG} {tt : TT} {tk tv : TE} (calm : X.calm = true) (nd : X.N.Nodup) (at_ : X.N[i]? = some y) (loc : X.env.scope.names.lookup y = some .local)
    (sw : swapsWith (.DictComp kx vx [⟨tg, iter, ifs, 0⟩] scope pos) (some (.Name y py)) spos.line X.env = pure true) (it_ : PI X tg iter wi) (blk : BlkOk X.N X.env.scope scope own)
    (p1 : ∀ (s : Shared) (H : Hp) (C : Addr) (cl : List (Str × Addr)) (fp : List Addr), PG (X.blk s H scope (compEnvC scope cl C X.env) fp) tg g)
    (p2 : ∀ (s : Shared) (H : Hp) (C : Addr) (cl : List (Str × Addr)) (fp : List Addr), PTs (X.blk s H scope (compEnvC scope cl C X.env) fp) ifs tt)
    (p3 : ∀ (s : Shared) (H : Hp) (C : Addr) (cl : List (Str × Addr)) (fp : List Addr), PE (X.blk s H scope (compEnvC scope cl C X.env) fp) kx tk)
    (p4 : ∀ (s : Shared) (H : Hp) (C : Addr) (cl : List (Str × Addr)) (fp : List Addr), PE (X.blk s H scope (compEnvC scope cl C X.env) fp) vx tv)
    (fold : ∀ x, foldedSetIterable iter X.env x = pure x := by intro _; rfl) :
    PS X (.Assign [.Name y py] (.DictComp kx vx [⟨tg, iter, ifs, 0⟩] scope pos) spos) (tAsg (tDn X wi g tt tk tv (own.map (·.2))) (gName i)) := by
  refine ⟨fun pins s σ H D I hD => ?_⟩
  rw [exec_Assign_Name_used _ _ _ _ sw]
  refine wpAny_bind (wpAny_standAt (wpAny_bind ?_))
  show wpAny _ X.A (do let _ ← comprehension (.DictComp kx vx [⟨tg, iter, ifs, 0⟩] scope pos) scope X.env (firstIterPos [⟨tg, iter, ifs, 0⟩] pos) newDict false (eval iter X.env) (some (assign (.Name y py) X.env))) _ _ s
  have hD : tDn X wi g tt tk tv (own.map (·.2)) σ H (fun x H1 => gName i x σ H1 D.nx) := hD
  refine wpAny_bind (thn (dcn_core (Qf := fun _ s' => SP X pins D .next s') calm nd I it_ blk p1 p2 p3 p4 fold hD fun L C s' m H' I' q hn f => ?_) fun _ s' hq => wpAny_pure (wpAny_pure hq))
  show wpAny _ _ (assign (.Name y py) X.env (.ref L)) _ _ _
  refine wpAny_assign_Name (store_ok2 (v := V.ref L) I' nd at_ (.inl loc) rfl (fun s2 I2 ⟨a, sb, ha⟩ => ?_) (.inr loc))
  have ne : C ≠ a := ha.elim (fun z => z ▸ f.2.1) fun z e => f.2.2.2.2.1 y a z e.symm
  exact ⟨m, hn.sameBut sb ne, fun h3 sb3 => ⟨_, H', I2.turned (t' := s2.toks) (fun b o hb e => (sb3.2 b hb).trans e) f.1 f.2.1 f.2.2.2.1 f.2.2.2.2.1 f.2.2.2.2.2, q⟩⟩
theorem sw_trueD {kx vx : Expr} {gs : List Comprehension} {scope : Scope} {pos py : Pos} {y : Str} {l : Nat} {env : Env} (fn : env.scope.kind = .function) (loc : env.scope.names.lookup y = some .local) (ln : (py.line == pos.line) = true)
    (out : (scope.names.any fun (n, k) => n == y && (k == .local || k == .cell)) = false) : swapsWith (.DictComp kx vx gs scope pos) (some (.Name y py)) l env = pure true := by
  have e1 : env.blockKind = .function := by unfold Env.blockKind; rw [fn]; rfl
  have e2 : env.kindOf y = some .local := loc
  unfold swapsWith
  simp only [e1, e2, out, Expr.pos, ln]
  rfl
end
end KZ
end

section
set_option Elab.async false
set_option linter.all false
set_option maxRecDepth 100000
set_option maxHeartbeats 4000000
/-! k not in d, None among d's keys -/
namespace KZ
open PySem PySem.Spec PyProof.Rows L2
section
variable {X : Cx} {A : Around} {E : Value → Shared → Prop} {pins : List (Addr × Obj)} {σ : L2.St} {H : Hp} {s : Shared} {a : Addr} {kvs : List (NK × V)} {k : NK} {u : Value}
theorem n_notin {Q : Value → Shared → Prop} (I : Inv X pins σ H s) (e : Rd H a (DN X.prog X.w a kvs)) (ry : RelV (nV k) u) (h : ∀ s', Inv X pins σ H s' → Q (.bool (!(valV kvs k).isSome)) s') :
    wpAny (model X.prog X.w) A (compareOp .NotIn u (.ref a)) Q E s := by
  obtain ⟨_, hd, vs, rel, dd⟩ := DN.rd (kvs := kvs) I.hok e
  have e2 := (rel.val k).isSome_eq
  refine wpAny_notIn_of (nV_is ry) hd dd.mapOf ?_
  rw [← e2]
  exact h _ (I.tok _)
end
def tNNotInP (P : Program) (w : World) (ty td : TE) : TE := fun σ H Q => ty σ H fun y H1 => td σ H1 fun x H2 => ∃ a kvs k, x = .ref a ∧ Rd H2 a (DN P w a kvs) ∧ y = nV k ∧ Q (.bl (!(valV kvs k).isSome)) H2
theorem pc_nnotinK {X : Cx} {i o : Expr} {ty td : TE} (P : Program) (w : World) (hi : PE X i ty) (ho : PE X o td) (hP : X.prog = P := by rfl) (hw : X.w = w := by rfl) : PC X .NotIn i o (tNNotInP P w ty td) := by
  subst hP hw
  refine ⟨fun pins s σ H Q I h => thn (hi.run pins s σ H _ I h) fun j s1 ⟨y, H1, I1, ry, q1⟩ => thn (ho.run pins s1 σ H1 _ I1 q1) fun u s2 ⟨x, H2, I2, rx, q2⟩ => ?_⟩
  obtain ⟨a, kvs, k, ex, e2, ey, q⟩ := q2
  subst ex ey
  cases (show u = Value.ref a from rx)
  exact n_notin I2 e2 ry fun s3 I3 => ⟨.bl _, H2, I3, rfl, q⟩
end KZ
end

section
set_option Elab.async false
set_option linter.all false
set_option maxRecDepth 100000
set_option maxHeartbeats 4000000
/-! len(d), None among d's keys -/
namespace KZ
open PySem PySem.Spec PyProof.Rows L2
section
variable {X : Cx}
theorem n_len {A : Around} {E : Value → Shared → Prop} {pins : List (Addr × Obj)} {σ : L2.St} {H : Hp} {s : Shared} {a : Addr} {kvs : List (NK × V)} {Q : Value → Shared → Prop} (I : Inv X pins σ H s) (e : Rd H a (DN X.prog X.w a kvs)) (h : ∀ t s', Inv X pins σ H s' → Q (.int kvs.length t) s') :
    wpAny (model X.prog X.w) A (call (.builtin "len") [.ref a]) Q E s := by
  obtain ⟨z, hd, vs, rel, dd⟩ := DN.rd (kvs := kvs) I.hok e
  have lv : kvs.length = vs.length := rel.length
  have small : vs.length < 2 ^ 63 := by
    rw [← lv]
    exact Nat.lt_of_le_of_lt z (by decide)
  refine call_len_dict hd dd (by omega) ?_
  rw [← lv]
  exact h _ _ (I.tok _)
theorem call_lenNK (P : Program) (w : World) (hP : X.prog = P := by rfl) (hw : X.w = w := by rfl) : CallR X (.builtin "len") (fun xs H Q => ∃ a kvs, xs = [V.ref a] ∧ Rd H a (DN P w a kvs) ∧ Q (.int (kvs.length : Nat)) H) := by
  subst hP hw
  intro pins s σ H xs us Q I r h
  obtain ⟨a, kvs, rfl, ha, q⟩ := h
  obtain ⟨u, rfl, ru⟩ := vals1 r
  cases (show u = Value.ref a from ru)
  exact n_len I ha fun t s' I' => ⟨.int kvs.length, H, I', ⟨t, rfl⟩, q⟩
end
end KZ
end

section
set_option Elab.async false
set_option linter.all false
set_option maxRecDepth 100000
set_option maxHeartbeats 4000000
/-! t.index(y), t a tuple of flat items -/
namespace KZ
open PySem PySem.Spec PyProof.Rows L2
section
variable {X : Cx}
def rTIx (K : PySem.W.Frag) : V → List V → Hp → VK → Prop := fun x xs H Q => ∃ (a : Addr) (ys : List V) (y : V) (j : Nat) (z : V), x = V.ref a ∧ xs = [y] ∧ SqT K H a ys ∧ flatV y = true ∧ ys.all flatV = true ∧ ys[j]? = some z ∧ eqV z y = true ∧ (∀ (m : Nat) (z' : V), m < j → ys[m]? = some z' → eqV z' y = false) ∧ Q (.int (j : Nat)) H
theorem mt_tix : MtR X "tuple.index" (rTIx X.K) := by
  intro pins s σ H x xs v us Q I rx rxs h
  obtain ⟨a, ys, y, j, z, ex, exs, tup, fy, fys, at_, same, first, q⟩ := h
  subst ex exs
  cases rx
  obtain ⟨u, eu, ry⟩ := vals1 rxs
  subst eu
  obtain ⟨its, rv, pl, hz⟩ := I.tuple tup
  obtain ⟨⟨cls, dd, dt, sl⟩, ho, hc, n, hd⟩ := pl
  simp only at hc hd
  subst hc hd
  obtain ⟨w, hw, rw_⟩ := rv.get at_
  obtain ⟨jl, je⟩ := List.getElem?_eq_some_iff.mp hw
  have hj : j < its.toArray.size := by simpa using jl
  refine call_meets PySem.F.slot_tuple_index ⟨_, ho, rfl⟩ PySem.F.entry_tuple_index (PySem.F.args_tuple_index_2 _ _)
    (TI.tuple_indexAt a its.toArray n dd sl u (eqU y) j hj ?_ ?_)
    ⟨ho, fun w' hw' => mem_eqAt ry fy rv fys w' (by simpa using hw'), ⟨.int (j : Nat), H, I.tok _, ⟨_, rfl⟩, q⟩⟩
  · have e1 : its.toArray[j] = w := by simpa using je
    rw [e1, eqU_of rw_ (flat_at fys at_)]
    exact same
  · intro m hm mj
    have ml : m < its.length := by simpa using hm
    have my : m < ys.length := by rw [← rv.length] at ml; exact ml
    obtain ⟨w2, hw2, r2⟩ := rv.get (List.getElem?_eq_getElem my)
    have e2 : its.toArray[m] = w2 := by simpa using (List.getElem?_eq_some_iff.mp hw2).2
    rw [e2, eqU_of r2 (flat_at fys (List.getElem?_eq_getElem my))]
    exact first m _ mj (List.getElem?_eq_getElem my)
end
end KZ
end

section
set_option Elab.async false
set_option linter.all false
set_option maxRecDepth 100000
set_option maxHeartbeats 4000000
/-! a tuple of which it is known that it has no dict: its methods -/
namespace KZ
open PySem PySem.Spec PyProof.Rows L2
def TupD (H : Hp) (p : Addr) (xs : List V) : Prop := ∃ ob : Obj, ob.dict = none ∧ H p = some (.frz ob (.tup xs))
theorem TupD.sq {K : PySem.W.Frag} {H : Hp} {p : Addr} {xs : List V} (h : TupD H p xs) : SqT K H p xs := by
  obtain ⟨ob, _, e⟩ := h
  exact .inl (.inr ⟨ob, e⟩)
theorem TupD.mono {H H' : Hp} {p : Addr} {xs : List V} (h : TupD H p xs) (k : ∀ ob, H p = some (.frz ob (.tup xs)) → H' p = some (.frz ob (.tup xs))) : TupD H' p xs := by
  obtain ⟨ob, d, e⟩ := h
  exact ⟨ob, d, k _ e⟩
section
variable {X : Cx}
def tTupD (t : TA) : TE := fun σ H Q => t σ H fun xs H1 => xs.length ≤ sizeLine ∧ ∀ p (ob : Obj), H1 p = none → ob.dict = none → Q (.ref p) (upd H1 p (.frz ob (.tup xs)))
theorem pe_tupD {es : List Expr} {x1 : Nat} {pos : Pos} {t : TA} (h : PA X es t) : PE X (.Tuple es x1 pos) (tTupD t) := by
  refine ⟨fun pins s σ H Q I hq => ?_⟩
  refine wpAny_Tuple_spliced (thn (h.run pos pins s σ H _ I hq) fun us s1 ⟨xs, H1, I1, r, z, q⟩ => ⟨by rw [← r.length]; exact z, ?_⟩)
  have hf : H1 s1.heap.objs.size = none := I1.hok.fresh (Nat.le_refl _)
  refine ⟨.ref s1.heap.objs.size, upd H1 s1.heap.objs.size (.frz { cls := .type "tuple", data := .seq us.toArray } (.tup xs)), I1.laid (t' := s1.toks) (fun b u e => Heap.get?_push_of_some _ e) (Nat.le_refl _) ?_, rfl, q _ _ hf rfl⟩
  exact ⟨Heap.get?_push_size _ rfl, z, us, r, ⟨_, Heap.get?_push_size _ rfl, rfl, _, rfl⟩⟩
def rCatD (K : PySem.W.Frag) : R2 := fun x y H Q => ∃ a b xs ys, x = .ref a ∧ y = .ref b ∧ SqT K H a xs ∧ SqT K H b ys ∧ xs.length + ys.length ≤ sizeLine ∧
  (xs = [] → Q (.ref b) H) ∧ (xs ≠ [] → ys = [] → Q (.ref a) H) ∧ (xs ≠ [] → ys ≠ [] → ∀ p (ob : Obj), H p = none → ob.dict = none → Q (.ref p) (upd H p (.frz ob (.tup (xs ++ ys)))))
theorem op_catD : OpR X (binaryOp .Add) (rCatD X.K) := by
  intro pins s σ H x y v u Q I rx ry h
  obtain ⟨a, b, xs, ys, rfl, rfl, ha, hb, hz, q0, q1, q2⟩ := h
  cases rx
  cases ry
  obtain ⟨its, r1, p1, _⟩ := I.tuple ha
  obtain ⟨its2, r2, p2, _⟩ := I.tuple hb
  by_cases hx : xs = []
  · subst hx
    cases r1
    exact cat_tup0 p1 p2 ⟨.ref b, H, I, rfl, q0 rfl⟩
  · refine HT.cat_tup p1 p2 (fun z => hx (r1.nil_iff.mp z)) (fun z => ⟨.ref a, H, I, rfl, q1 hx (r2.nil_iff.mp z)⟩) (fun z => ?_) (by rw [← r1.length, ← r2.length]; exact hz)
    refine ⟨.ref s.heap.objs.size, _, I.laid (t' := s.toks) (o := .frz { cls := .type "tuple", data := .seq (its ++ its2).toArray } (.tup (xs ++ ys))) (fun b ob q => Heap.get?_push_of_some _ q) (Nat.le_refl _) ?_, rfl, q2 hx (fun w => z (r2.nil_iff.mpr w)) _ _ (I.hok.fresh (Nat.le_refl _)) rfl⟩
    exact ⟨Heap.get?_push_size _ rfl, by rw [List.length_append]; exact hz, _, r1.append r2, IsTup.new _ _⟩
theorem TupD.is {pins : List (Addr × Obj)} {σ : L2.St} {H : Hp} {s : Shared} {p : Addr} {xs : List V} (I : Inv X pins σ H s) (h : TupD H p xs) : s.TypeIs (.ref p) "tuple" ∧ ∀ a, Value.ref p = .ref a → ∃ ob, s.heap.get? a = some ob ∧ ob.dict = none := by
  obtain ⟨ob, hd, e⟩ := h
  obtain ⟨e1, _, its, r, t⟩ := I.hok p _ e
  exact ⟨t.typeIs, fun a z => by cases z; exact ⟨ob, e1, hd⟩⟩
def tBMD (r : V → List V → Hp → VK → Prop) (to : TE) (t : TA) : TE := fun σ H Q => to σ H fun x H1 => (∃ p xs, x = .ref p ∧ TupD H1 p xs) ∧ t σ H1 fun xs H2 => r x xs H2 Q
variable {o e : Expr} {es : List Expr} {to : TE} {t : TA} {name : Str} {apos cpos : Pos} {id : String} {r : V → List V → Hp → VK → Prop}
theorem pe_bmD (pa : PlainAttrs "tuple") (slot : Slot "tuple" name id) (hty : typeOf (.builtin id) = pure (.type "method_descriptor")) (hm : MtR X id r) (ho : PE X o to) (ha : PA X (e :: es) t)
    (hbase : attributeBase o name X.env (eval o X.env) = eval o X.env := by rfl)
    (hfew : ((backTo cpos (starEach (e :: es) X.env)).all (fun x => !x.1) && (backToKw cpos (keywordEach [] X.env)).all (fun x => x.1.isSome)
      && decide ((e :: es).length + ([] : List Keyword).length + (if ([] : List Keyword).isEmpty then 0 else 1) < 30)) = true := by rfl)
    (hline : (apos.endLine == cpos.line) = true := by rfl) (hs : starEach (e :: es) X.env = (false, eval e X.env) :: starEach es X.env := by rfl) (hplain : (backTo cpos (starEach es X.env)).any (·.1) = false := by rfl) :
    PE X (.Call (.Attribute o name apos) (e :: es) [] cpos) (tBMD r to t) := by
  refine ⟨fun pins s σ H Q I h => ?_⟩
  refine wpAny_Call_method_late hbase hfew hline rfl (thn (ho.run pins s σ H _ I h) fun v s1 ⟨x, H1, I1, r1, ⟨p, xs0, ex, ty⟩, q1⟩ => ?_)
  subst ex
  cases r1
  obtain ⟨h1, h2⟩ := ty.is I1
  refine ⟨"tuple", id, pa, slot, hty, h1, h2, ?_⟩
  have hA := ha.run cpos pins s1 σ H1 _ I1 q1
  rw [hs] at hA ⊢
  refine Calls.callWith_builtin (by show (false || (backTo cpos (starEach es X.env)).any (·.1)) = false; rw [hplain] <;> rfl) (Calls.evalArgs_plain ?_)
  exact thn hA fun us s2 ⟨vs, H2, I2, r2, q2⟩ => hm pins s2 σ H2 (.ref p) vs (.ref p) us Q I2 rfl r2 q2
end
end KZ
end

section
set_option Elab.async false
set_option linter.all false
set_option maxRecDepth 100000
set_option maxHeartbeats 4000000
/-! rules with the fragment named: methods of lists, slices and sums of tuples -/
namespace KZ
open PySem PySem.Spec PyProof.Rows L2
section
variable {X : Cx} {o e : Expr} {es : List Expr} {to : TE} {t : TA} {name : Str} {apos cpos : Pos} {T id : String} {r : V → List V → Hp → VK → Prop}
theorem mt_indexK (K : PySem.W.Frag) (h : X.K = K := by rfl) : MtR X "list.index" (rIndex K) := by subst h; exact mt_index
theorem mt_tixK (K : PySem.W.Frag) (h : X.K = K := by rfl) : MtR X "tuple.index" (rTIx K) := by subst h; exact mt_tix
theorem sl_tupK (K : PySem.W.Frag) (h : X.K = K := by rfl) : SlR X (rSlT K) := by subst h; exact sl_tup
theorem op_catAK (K : PySem.W.Frag) (h : X.K = K := by rfl) : OpR X (binaryOp .Add) (rCatA K) := by subst h; exact op_catA
theorem pe_bmK (K : PySem.W.Frag) (pa : PlainAttrs T) (slot : Slot T name id) (hty : typeOf (.builtin id) = pure (.type "method_descriptor")) (hm : MtR X id r) (ho : PE X o to) (ha : PA X (e :: es) t) (hK : X.K = K := by rfl)
    (hbase : attributeBase o name X.env (eval o X.env) = eval o X.env := by rfl)
    (hfew : ((backTo cpos (starEach (e :: es) X.env)).all (fun x => !x.1) && (backToKw cpos (keywordEach [] X.env)).all (fun x => x.1.isSome)
      && decide ((e :: es).length + ([] : List Keyword).length + (if ([] : List Keyword).isEmpty then 0 else 1) < 30)) = true := by rfl)
    (hline : (apos.endLine == cpos.line) = true := by rfl) (hs : starEach (e :: es) X.env = (false, eval e X.env) :: starEach es X.env := by rfl) (hplain : (backTo cpos (starEach es X.env)).any (·.1) = false := by rfl) :
    PE X (.Call (.Attribute o name apos) (e :: es) [] cpos) (tBM K T r to t) := by
  subst hK
  exact pe_bm pa slot hty hm ho ha hbase hfew hline hs hplain
end
end KZ
end

section
set_option Elab.async false
set_option linter.all false
set_option maxRecDepth 100000
/-! the text's statements, by number -/
namespace K36
open PySem
def top (i : Nat) : Stmt := PySem.Challenge.pw_stayopen_k36_surely_and_tellable.main.body.getD i (.Pass ⟨0, 0, 0, 0⟩)
def mem (i j : Nat) : Stmt := match top i with
  | .ClassDef _ _ _ b _ _ _ _ _ _ _ => b.getD j (.Pass ⟨0, 0, 0, 0⟩)
  | s => s
end K36
end

section
set_option Elab.async false
set_option linter.all false
set_option maxRecDepth 100000
set_option maxHeartbeats 0
/-! the head: facts by names -/
namespace K36
open PySem L2 KZ

def fn0 : List He.DefD := [⟨("is_integer", none), "is_integer", "is_integer", defArgs (top 2), defBody (top 2), defScope (top 2), [], []⟩, ⟨("is_name", none), "is_name", "is_name", defArgs (top 3), defBody (top 3), defScope (top 3), [], []⟩, ⟨("copied", none), "copied", "copied", defArgs (top 5), defBody (top 5), defScope (top 5), [], []⟩, ⟨("check_ask", none), "check_ask", "check_ask", defArgs (top 15), defBody (top 15), defScope (top 15), [], []⟩, ⟨("is_count", none), "is_count", "is_count", defArgs (top 16), defBody (top 16), defScope (top 16), [], []⟩, ⟨("need_asks", none), "need_asks", "need_asks", defArgs (top 17), defBody (top 17), defScope (top 17), [], []⟩, ⟨("told_lots", none), "told_lots", "told_lots", defArgs (top 18), defBody (top 18), defScope (top 18), [], []⟩, ⟨("parts_of", none), "parts_of", "parts_of", defArgs (top 19), defBody (top 19), defScope (top 19), [], []⟩, ⟨("zones", none), "zones", "zones", defArgs (top 14), defBody (top 14), defScope (top 14), [], []⟩, ⟨("surely", none), "surely", "surely", defArgs (top 21), defBody (top 21), defScope (top 21), [], []⟩]
def fn1 : List He.DefD := [⟨("tellable", none), "tellable", "tellable", defArgs (top 22), defBody (top 22), defScope (top 22), [], []⟩, ⟨("lot_of", none), "lot_of", "lot_of", defArgs (top 23), defBody (top 23), defScope (top 23), [], []⟩, ⟨("gets_ahead_of_puts", none), "gets_ahead_of_puts", "gets_ahead_of_puts", defArgs (top 24), defBody (top 24), defScope (top 24), [], []⟩, ⟨("lots_at_odds", none), "lots_at_odds", "lots_at_odds", defArgs (top 25), defBody (top 25), defScope (top 25), [], []⟩, ⟨("need_order", none), "need_order", "need_order", defArgs (top 26), defBody (top 26), defScope (top 26), [], []⟩, ⟨("is_lot_ahead", none), "is_lot_ahead", "is_lot_ahead", defArgs (top 27), defBody (top 27), defScope (top 27), [], []⟩, ⟨("can_be_last", none), "can_be_last", "can_be_last", defArgs (top 28), defBody (top 28), defScope (top 28), [], []⟩, ⟨("_law_well", none), "_law_well", "_law_well", defArgs (top 30), defBody (top 30), defScope (top 30), [], []⟩, ⟨("_law_draw", none), "_law_draw", "_law_draw", defArgs (top 31), defBody (top 31), defScope (top 31), [], []⟩, ⟨("_law_one", none), "_law_one", "_law_one", defArgs (top 32), defBody (top 32), defScope (top 32), [], []⟩]
def fn2 : List He.DefD := [⟨("_law_rows", none), "_law_rows", "_law_rows", defArgs (top 33), defBody (top 33), defScope (top 33), [], []⟩, ⟨("_law_made", none), "_law_made", "_law_made", defArgs (top 34), defBody (top 34), defScope (top 34), [], []⟩, ⟨("_law_parts", none), "_law_parts", "_law_parts", defArgs (top 35), defBody (top 35), defScope (top 35), [], []⟩, ⟨("_law_ahead", none), "_law_ahead", "_law_ahead", defArgs (top 36), defBody (top 36), defScope (top 36), [], []⟩, ⟨("_law_orders", none), "_law_orders", "_law_orders", defArgs (top 37), defBody (top 37), defScope (top 37), [], []⟩, ⟨("_law_heard", none), "_law_heard", "_law_heard", defArgs (top 38), defBody (top 38), defScope (top 38), [], []⟩, ⟨("_law_no_history", none), "_law_no_history", "_law_no_history", defArgs (top 39), defBody (top 39), defScope (top 39), [], []⟩, ⟨("_law_zones", none), "_law_zones", "_law_zones", defArgs (top 40), defBody (top 40), defScope (top 40), [], []⟩, ⟨("_law_led", none), "_law_led", "_law_led", defArgs (top 41), defBody (top 41), defScope (top 41), [], []⟩, ⟨("_law_pairs_right", none), "_law_pairs_right", "_law_pairs_right", defArgs (top 42), defBody (top 42), defScope (top 42), [], []⟩]
def fn3 : List He.DefD := [⟨("_law_further_right", none), "_law_further_right", "_law_further_right", defArgs (top 43), defBody (top 43), defScope (top 43), [], []⟩, ⟨("_law_refused_right", none), "_law_refused_right", "_law_refused_right", defArgs (top 44), defBody (top 44), defScope (top 44), [], []⟩, ⟨("_law_ahead_of", none), "_law_ahead_of", "_law_ahead_of", defArgs (top 45), defBody (top 45), defScope (top 45), [], []⟩, ⟨("_law_sure", none), "_law_sure", "_law_sure", defArgs (top 46), defBody (top 46), defScope (top 46), [], []⟩, ⟨("_law_led_right", none), "_law_led_right", "_law_led_right", defArgs (top 47), defBody (top 47), defScope (top 47), [], []⟩, ⟨("_law_history_right", none), "_law_history_right", "_law_history_right", defArgs (top 48), defBody (top 48), defScope (top 48), [], []⟩, ⟨("law", none), "law", "law", defArgs (top 49), defBody (top 49), defScope (top 49), [], []⟩, ⟨("BadAsk", some "__init__"), "__init__", "BadAsk.__init__", defArgs (mem 8 0), defBody (mem 8 0), defScope (mem 8 0), [], []⟩, ⟨("Clashing", some "__init__"), "__init__", "Clashing.__init__", defArgs (mem 9 0), defBody (mem 9 0), defScope (mem 9 0), [], []⟩, ⟨("TooMany", some "__init__"), "__init__", "TooMany.__init__", defArgs (mem 10 0), defBody (mem 10 0), defScope (mem 10 0), [], []⟩]
def fn4 : List He.DefD := [⟨("Ask", some "__init__"), "__init__", "Ask.__init__", defArgs (mem 13 0), defBody (mem 13 0), defScope (mem 13 0), [.non, .non], []⟩, ⟨("Ask", some "is_ahead"), "is_ahead", "Ask.is_ahead", defArgs (mem 13 1), defBody (mem 13 1), defScope (mem 13 1), [], []⟩]
def fns : List He.DefD := fn0 ++ fn1 ++ fn2 ++ fn3 ++ fn4
def fa0 : List He.Fa := [.glo "is_integer", .glo "is_name", .glo "copied", .glo "check_ask", .glo "is_count", .glo "need_asks", .glo "told_lots", .glo "parts_of", .glo "zones", .glo "surely", .glo "tellable", .glo "lot_of", .glo "gets_ahead_of_puts", .glo "lots_at_odds", .glo "need_order", .glo "is_lot_ahead", .glo "can_be_last", .glo "_law_well", .glo "_law_draw", .glo "_law_one", .glo "_law_rows", .glo "_law_made", .glo "_law_parts", .glo "_law_ahead", .glo "_law_orders", .glo "_law_heard", .glo "_law_no_history", .glo "_law_zones", .glo "_law_led", .glo "_law_pairs_right"]
def fa1 : List He.Fa := [.glo "_law_further_right", .glo "_law_refused_right", .glo "_law_ahead_of", .glo "_law_sure", .glo "_law_led_right", .glo "_law_history_right", .glo "law", .glo "OpenError", .glo "BadAsk", .glo "Clashing", .glo "TooMany", .glo "Ask", .free "isinstance", .free "int", .free "bool", .free "str", .free "len", .free "all", .free "list", .free "tuple", .free "dict", .free "range", .free "max", .free "min", .free "sorted", .free "repr", .free "abs", .free "enumerate", .int "MOST_ASKS" 1000, .str "LETTERS" "abcdefghijklmnopqrstuvwxyz"]
def fa2 : List He.Fa := [.mkr "Ask", .exm "BadAsk" "OpenError" true, .exm "TooMany" "OpenError" true, .exm "Clashing" "OpenError" true, .cls "Ask", .noat "Ask" "client", .noat "Ask" "word", .noat "Ask" "begun", .noat "Ask" "ended", .noat "Ask" "told", .meth "Ask" "is_ahead"]
def fas : List He.Fa := fa0 ++ fa1 ++ fa2
def nm0 : List Str := ["LETTERS", "is_integer", "is_name", "copied", "OpenError", "BadAsk", "Clashing", "TooMany", "MOST_ASKS", "Ask", "zones", "check_ask", "is_count", "need_asks", "told_lots", "parts_of", "surely", "tellable", "lot_of", "gets_ahead_of_puts", "lots_at_odds", "need_order", "is_lot_ahead", "can_be_last", "_law_well", "_law_draw", "_law_one", "_law_rows", "_law_made", "_law_parts"]
def nm1 : List Str := ["_law_ahead", "_law_orders", "_law_heard", "_law_no_history", "_law_zones", "_law_led", "_law_pairs_right", "_law_further_right", "_law_refused_right", "_law_ahead_of", "_law_sure", "_law_led_right", "_law_history_right"]
def nms : List Str := nm0 ++ nm1
def kits (K : PySem.W.Frag) : List (Value × Value × Bool) := [((.ref (He.ga K "BadAsk")), (.ref (He.ga K "TooMany")), false), ((.ref (He.ga K "BadAsk")), (.ref (He.ga K "BadAsk")), true), ((.ref (He.ga K "TooMany")), (.ref (He.ga K "TooMany")), true), ((.ref (He.ga K "Clashing")), (.ref (He.ga K "TooMany")), false), ((.ref (He.ga K "Clashing")), (.ref (He.ga K "BadAsk")), false), ((.ref (He.ga K "Clashing")), (.ref (He.ga K "Clashing")), true), ((.ref (He.ga K "Ask")), (.ref (He.ga K "Ask")), true), ((.type "NoneType"), (.ref (He.ga K "Ask")), false), ((.type "bool"), (.ref (He.ga K "Ask")), false), ((.type "int"), (.ref (He.ga K "Ask")), false), ((.type "str"), (.ref (He.ga K "Ask")), false), ((.type "list"), (.ref (He.ga K "Ask")), false), ((.type "tuple"), (.ref (He.ga K "Ask")), false), ((.type "dict"), (.ref (He.ga K "Ask")), false), ((.ref (He.ga K "Ask")), (.type "list"), false), ((.ref (He.ga K "Ask")), (.type "tuple"), false), ((.type "NoneType"), (.type "list"), false), ((.type "NoneType"), (.type "tuple"), false), ((.type "bool"), (.type "list"), false), ((.type "bool"), (.type "tuple"), false), ((.type "int"), (.type "list"), false), ((.type "int"), (.type "tuple"), false), ((.type "str"), (.type "list"), false), ((.type "str"), (.type "tuple"), false), ((.type "dict"), (.type "list"), false), ((.type "dict"), (.type "tuple"), false)]
def kitsB (K : PySem.W.Frag) : Bool := (kits K).all fun x => decide (PySem.W.kitOne K x.1 x.2.1 = some x.2.2)
def askB (K : PySem.W.Frag) : Bool := He.eqO (PySem.W.findIn K (.ref (He.ga K "Ask")) "__class__") (some (some (.builtin "object.__class__"))) && (He.eqO (PySem.W.specialIn K (.builtin "object.__class__") "__get__") (some (some (.builtin "getset_descriptor.__get__"))) && (decide (PySem.W.takesIn K (.builtin "object.__class__") = some true) && (decide (PySem.W.mroIn K (He.ga K "Ask") (.type "object") = some true) &&
  He.eqO (PySem.W.findIn K (.ref (He.ga K "Ask")) "__ne__") (some (some (.builtin "object.__ne__"))))))
def tP (K : PySem.W.Frag) : Addr := (He.cT K ("_law_pairs_right", none)).2
def tR (K : PySem.W.Frag) : Addr := (He.cT K ("_law_refused_right", none)).2
def tL (K : PySem.W.Frag) : Addr := (He.cT K ("_law_led_right", none)).2
def apartB (K : PySem.W.Frag) : Bool := !(Nat.beq (tP K) (tR K)) && (!(Nat.beq (tP K) (tL K)) && !(Nat.beq (tR K) (tL K)))
def exC (K : PySem.W.Frag) : Bool := errI K (He.ga K "BadAsk") ["part"] && (errI K (He.ga K "Clashing") ["part"] && (errI K (He.ga K "TooMany") ["what", "most"] && (kitsB K && (askB K && apartB K))))
def asW (fs cs : List Str) (ms : List (Str × Str)) (g : Addr → Option Obj) : List Addr :=
  let K0 := He.frG g [mainGlobals]
  let nx := fun a => ((g a).map He.refsD).getD []
  (asZ fs cs g ++ (ms.map fun p => let C := He.ga K0 p.1; let l := nx C; let i := He.ma (He.frG g (C :: l)) C p.2; i :: nx i).flatten).eraseDups
abbrev R : PySem.W.OpenRow := PySem.W.OpenLaw.row PySem.Challenge.rw_stayopen_k36_surely_and_tellable
abbrev tfs : List He.Defn := [("_law_pairs_right", none), ("_law_refused_right", none), ("_law_led_right", none)]
def selF : List Str := (["is_integer", "is_name", "copied", "check_ask", "is_count", "need_asks", "told_lots", "parts_of", "zones", "surely", "tellable", "lot_of"] : List Str) ++ (["gets_ahead_of_puts", "lots_at_odds", "need_order", "is_lot_ahead", "can_be_last", "_law_well", "_law_draw", "_law_one", "_law_rows", "_law_made", "_law_parts", "_law_ahead"] : List Str) ++ (["_law_orders", "_law_heard", "_law_no_history", "_law_zones", "_law_led", "_law_pairs_right", "_law_further_right", "_law_refused_right", "_law_ahead_of", "_law_sure", "_law_led_right", "_law_history_right"] : List Str) ++ (["law"] : List Str)
def selC : List Str := ["OpenError", "BadAsk", "Clashing", "TooMany", "Ask"]
abbrev sel : (Addr → Option Obj) → List Addr := asW selF selC [("Ask", "is_ahead")]
abbrev hk : PySem.W.Hook := hookY sel fas fns [] tfs exC
def ob (s : PySem.W.SharedT) : He.AlX := obsY sel fas fns [] tfs exC (HandSHeadRun.getT s)
theorem ob_eq (s : PySem.W.SharedT) : ob s = hk.obs s.abs := obsY_eq _ _ _ _ _ _ (HandSHeadRun.getT_eq s)
abbrev Q0 : Program := PySem.W.view R.prog [49]
open PySem.W PySem.Calls PyProof.Rows in
noncomputable abbrev sawL (w : World) (s : PySem.W.SharedT) : Bool := HandSHeadRun.looksF R.prog (boot_heap w.params) s.abs
open PySem.W PySem.Calls PyProof.Rows in
noncomputable abbrev sawS (s : PySem.W.SharedT) := HandSHeadRun.seenQ Q0 nms (importedModules R.prog.main.body) (fun s => xlAt Q0 [] s && recOk R.toRowW.records s) s.abs
theorem look (w : World) (os : OsState) : (endH 20000 R.prog w os).map (sawL w) = some true := by
  kernel_rfl
theorem seen (w : World) (os : OsState) : (endH 20000 R.prog w os).map sawS = some (PySem.W.openGood Q0 nms) := by
  kernel_rfl
theorem obW (w : World) (os : OsState) : (endH 20000 R.prog w os).map ob = some (hk.val w) := by
  kernel_rfl
theorem run (w : World) : HandSHeadRun.RunEq R Q0 hk ob 20000 nms w := by
  intro os
  obtain ⟨r1, h1, e1⟩ := endH_map (look w os)
  obtain ⟨r2, h2, e2⟩ := endH_map (seen w os)
  obtain ⟨r3, h3, e3⟩ := endH_map (obW w os)
  obtain rfl := Option.some.inj (h1.symm.trans h2)
  obtain rfl := Option.some.inj (h1.symm.trans h3)
  rw [h1]
  exact congrArg some (Prod.ext e1 (Prod.ext e2 e3))
end K36
end

section
set_option Elab.async false
set_option linter.all false
set_option maxRecDepth 100000
set_option maxHeartbeats 4000000
/-! the checks -/
namespace K36
open PySem L2 KZ
abbrev sIsInt : Stmt := top 2
abbrev sIsName : Stmt := top 3

theorem Dv.mono {K : PySem.W.Frag} {H H' : Hp} (e : Same H H') {v : V} {d : PyData} (h : Dv K H v d) : Dv K H' v d := by
  have sT : ∀ {a xs}, SqT K H a xs → SqT K H' a xs := fun h => by
    rcases h with (h | ⟨o, h⟩) | h
    · exact .inl (.inl (e _ _ h))
    · exact .inl (.inr ⟨o, e _ _ h⟩)
    · exact .inr h
  have rD : ∀ {a u}, Rd H a u → Rd H' a u := fun h => by
    rcases h with h | ⟨o, h⟩
    · exact .inl (e _ _ h)
    · exact .inr ⟨o, e _ _ h⟩
  refine Dv.rec (motive_1 := fun v d _ => Dv K H' v d) (motive_2 := fun v d _ => Dvs K H' v d) (motive_3 := fun v d _ => Dks K H' v d) .non .bl .int .str ?_ ?_ ?_ .nil ?_ .nil ?_ h
  · intro a xs ds h1 _ i; exact .lst (e.seq h1) i
  · intro a xs ds h1 _ i; exact .tup (sT h1) i
  · intro a xs ds h1 _ i; exact .dic (rD h1) i
  · intro v vs d ds _ _ i j; exact .cons i j
  · intro k v kvs d ps _ _ i j; exact .cons i j
/-- the name of a datum's class -/
def tyN : PyData → String
  | .none => "NoneType" | .bool _ => "bool" | .int _ => "int" | .str _ => "str" | .list _ => "list" | .tuple _ => "tuple" | .dict _ => "dict"
theorem Dv.ty {K : PySem.W.Frag} {H : Hp} {v : V} {d : PyData} (h : Dv K H v d) : TyX K H v (.type (tyN d)) := by
  cases h with
  | non => exact .base .non
  | bl b => exact .base (.bl b)
  | int i => exact .base (.int i)
  | str x => exact .base (.str x)
  | lst hs _ =>
    rcases hs with (q | ⟨o, q⟩) | ⟨o, its, n, q, c, _⟩
    · exact .base (.lst q)
    · exact .base (.frz q)
    · exact .kList q c
  | tup hs _ =>
    rcases hs with (q | ⟨o, q⟩) | ⟨o, its, n, q, c, _⟩
    · exact .base (.tup q)
    · exact .fTuple q
    · exact .kTuple q c
  | dic hs _ =>
    rcases hs with q | ⟨o, q⟩
    · exact .base (.dK q)
    · exact .fDict q
def isT (t : String) : PyData → Bool := fun d => match t, d with
  | "int", .int _ => true
  | "int", .bool _ => true
  | "bool", .bool _ => true
  | "str", .str _ => true
  | "list", .list _ => true
  | "tuple", .tuple _ => true
  | "dict", .dict _ => true
  | _, _ => false
/-- isinstance(x, c) of data, c a built-in class -/
def rIsD (K : PySem.W.Frag) (c : String) : List V → Hp → VK → Prop := fun xs H Q => ∃ (v : V) (d : PyData), xs = [v, .ty c] ∧ Dv K H v d ∧ Q (.bl (isT c d)) H
def clsL : List String := ["int", "bool", "str", "list", "tuple", "dict"]
def isTN (c t : String) : Bool := decide (t = c) || (decide (c = "int") && decide (t = "bool"))
theorem kit_tab : ∀ c ∈ clsL, ∀ t ∈ ["NoneType", "bool", "int", "str", "list", "tuple", "dict"], kitB t c = some (isTN c t) := by decide +kernel
theorem isT_tab : ∀ c ∈ clsL, isTN c "NoneType" = isT c .none ∧ (∀ b, isTN c "bool" = isT c (.bool b)) ∧ (∀ i, isTN c "int" = isT c (.int i)) ∧ (∀ x, isTN c "str" = isT c (.str x)) ∧ (∀ l, isTN c "list" = isT c (.list l)) ∧ (∀ l, isTN c "tuple" = isT c (.tuple l)) ∧ ∀ l, isTN c "dict" = isT c (.dict l) := by
  intro c hc
  simp only [clsL, List.mem_cons, List.not_mem_nil, or_false] at hc
  rcases hc with rfl | rfl | rfl | rfl | rfl | rfl <;> exact ⟨rfl, fun _ => rfl, fun _ => rfl, fun _ => rfl, fun _ => rfl, fun _ => rfl, fun _ => rfl⟩
theorem kit_d {K : PySem.W.Frag} {c : String} (hc : c ∈ clsL) (d : PyData) : PySem.W.kitOne K (.type (tyN d)) (.type c) = some (isT c d) := by
  obtain ⟨h1, h2, h3, h4, h5, h6, h7⟩ := isT_tab c hc
  have k := kit_tab c hc
  refine kit_ty ?_
  cases d with
  | none => rw [← h1]; exact k "NoneType" (by decide)
  | bool b => rw [← h2]; exact k "bool" (by decide)
  | int i => rw [← h3]; exact k "int" (by decide)
  | str x => rw [← h4]; exact k "str" (by decide)
  | list x => rw [← h5]; exact k "list" (by decide)
  | tuple x => rw [← h6]; exact k "tuple" (by decide)
  | dict x => rw [← h7]; exact k "dict" (by decide)
theorem call_isD {X : Cx} {c : String} (hc : c ∈ clsL := by decide) : CallR X (.builtin "isinstance") (rIsD X.K c) := by
  intro pins s σ H xs us Q I r h
  obtain ⟨v, d, rfl, hd, q⟩ := h
  exact call_isi pins s σ H _ us Q I r ⟨v, .ty c, _, _, _, rfl, .ty c, Dv.ty hd, kit_d hc d, q⟩

structure B0 (mg : Str → Option Value) : Prop where
  isi : mg "isinstance" = none
  int : mg "int" = none
  bool : mg "bool" = none
  str : mg "str" = none
  len : mg "len" = none
  all : mg "all" = none
  list : mg "list" = none
  tuple : mg "tuple" = none
  dict : mg "dict" = none
def isInt : PyData → Bool
  | .int _ => true
  | _ => false
def spIsInt (K : PySem.W.Frag) : Sp := fun vs H Q _ => ∃ v d, vs = [v] ∧ Dv K H v d ∧ Q (.bl (isInt d)) H
section
variable {P : Program} {w : World} {K : PySem.W.Frag} {mg : Str → Option Value} {base : Heap}
theorem scIsInt : FnScope ["value"] ["value"] (defScope sIsInt) := ⟨rfl, rfl, rfl, by decide +kernel, rfl, by decide +kernel, by decide +kernel⟩
theorem ok_is_integer {f : Addr} {fd : FuncData} (F : Fun K "is_integer" "is_integer" sIsInt f fd) (T : B0 mg) : FnOk P w K mg base CX0 1 f fd ["value"] (spIsInt K) := by
  refine F.ok scIsInt (fun vs H Q E h => ?_) (fun cdv A outer s H vs Q E hr h => ?_)
  · obtain ⟨v, d, rfl, _⟩ := h
    rfl
  · obtain ⟨v, d, rfl, hd, q⟩ := h
    refine ⟨_, pss_one (ps_ret (pe_and (pe_callB (call_isD (c := "int")) (by rfl) T.isi (by decide +kernel) (pa_cons (pv 0) (pa_cons (pe_bltn (v := .ty "int") (by rfl) T.int (by decide +kernel) rfl) pa_nil)))
      (pe_one (pe_not (pe_callB (call_isD (c := "bool")) (by rfl) T.isi (by decide +kernel) (pa_cons (pv 0) (pa_cons (pe_bltn (v := .ty "bool") (by rfl) T.bool (by decide +kernel) rfl) pa_nil))))))), ?_⟩
    refine ⟨v, rfl, v, d, rfl, hd, _, rfl, ?_⟩
    cases e : isT "int" d with
    | false =>
      refine iteF ?_
      cases d <;> first | exact q | cases e
    | true =>
      refine iteT ⟨v, rfl, v, d, rfl, hd, _, rfl, ?_⟩
      cases d <;> first | exact q | cases e
end
end K36
end

section
set_option Elab.async false
set_option linter.all false
set_option maxRecDepth 100000
set_option maxHeartbeats 4000000
/-! the checks, further -/
namespace K36
open PySem L2 KZ
abbrev lets : Str := "abcdefghijklmnopqrstuvwxyz"
def within (l m : Int) : PyData → Bool
  | .int i => decide (l ≤ i) && decide (i ≤ m)
  | _ => false
def isName : PyData → Bool
  | .str x => decide (1 ≤ x.length) && decide (x.length ≤ 8) && x.cps.toList.all fun c => decide (c ∈ lets.cps.toList)
  | _ => false
/-- the program's constants and defs, as the top has left them -/
structure C0 (mg : Str → Option Value) (fI : Addr) : Prop where
  lets : ∃ t, mg "LETTERS" = some (.str lets t)
  gI : mg "is_integer" = some (.ref fI)
def spWithin (K : PySem.W.Frag) : Sp := fun vs H Q _ => ∃ v d l m, vs = [v, .int l, .int m] ∧ Dv K H v d ∧ Q (.bl (within l m d)) H
def spPlace (K : PySem.W.Frag) : Sp := fun vs H Q _ => ∃ v d, vs = [v] ∧ Dv K H v d ∧ Q (.bl (within 0 999999999 d)) H
/-- the heap may have grown -/
def spName (K : PySem.W.Frag) : Sp := fun vs H Q _ => ∃ v d, vs = [v] ∧ Dv K H v d ∧ (∀ x, d = .str x → x.length ≤ 1000) ∧ ∀ H', Same H H' → Q (.bl (isName d)) H'
theorem yes_go {σ : L2.St} {H : Hp} {A B : Hp → Prop} (h : A H) : tYes σ H (fun b H3 => if b = true then A H3 else B H3) := by
  show (if true = true then A H else B H)
  rw [if_pos rfl]
  exact h
theorem same_new {H : Hp} {p : Addr} {o : HO} (h : H p = none) : Same H (upd H p o) := fun b u e => by
  rw [upd_ne (ne_of_none e h)]
  exact e
section
variable {P : Program} {w : World} {K : PySem.W.Frag} {mg : Str → Option Value} {base : Heap} {fI fW : Addr} {dI dW : FuncData}
theorem scName : FnScope ["value", "letter"] ["value"] (defScope sIsName) := ⟨rfl, rfl, rfl, by decide +kernel, rfl, by decide +kernel, by decide +kernel⟩
theorem ok_is_name {f : Addr} {fd : FuncData} (F : Fun K "is_name" "is_name" sIsName f fd) (T : B0 mg) (U : C0 mg fI) : FnOk P w K mg base CX0 1 f fd ["value"] (spName K) := by
  obtain ⟨t, hl⟩ := U.lets
  refine F.ok scName (fun vs H Q E h => ?_) (fun cdv A outer s H vs Q E hr h => ?_)
  · obtain ⟨v, d, rfl, _⟩ := h
    rfl
  · obtain ⟨v, d, rfl, hd, hsz, q⟩ := h
    refine ⟨_, pss_cons (ps_if (PW.pt (pw_or (pt_not (pt_val (pe_callB (call_isD (c := "str")) (by rfl) T.isi (by decide +kernel) (pa_cons (pv 0) (pa_cons (pe_bltn (v := .ty "str") (by rfl) T.str (by decide +kernel) rfl) pa_nil)))))
        (pw_or1 (pt_not (pt_chain op_le op_le pe_int (pe_callB call_len (by rfl) T.len PySem.boot_len (pa_cons (pv 0) pa_nil)) pe_int)))))
        (pss_one (ps_ret pe_bl)) pss_nil)
      (pss_one (ps_ret (pe_callB (cr_all rfl) (by rfl) T.all (by decide +kernel) (pa_cons (pe_lc (own := [("letter", 1)]) (g := gName 1) (tt := tYes) (by rfl) scName.nd (pi_str (pv 0))
        (blkOk_by (own := [("letter", 1)]) (N := ["value", "letter"]) (sc := defScope sIsName) (by decide +kernel)) (fun _ _ _ _ _ => pg_name (i := 1) scName.nd rfl (Or.inl rfl)) (fun _ _ _ _ _ => pts_nil)
        (fun _ _ _ _ _ => pe_cmpR op_in_sign (pv 1) (pe_glob (v := .str lets) (by rfl) hl ⟨_, rfl⟩) (by rfl))) pa_nil)))), ?_⟩
    refine ⟨v, rfl, v, d, rfl, hd, _, rfl, ?_⟩
    cases d with
    | str x =>
      cases hd
      have hx := hsz x rfl
      refine iteF ⟨_, rfl, .str x, x.length, rfl, ⟨Nat.le_trans hx (by decide), rfl⟩, 1, (x.length : Int), rfl, rfl, _, rfl, ?_⟩
      refine ite2 (fun h1 => ⟨_, _, rfl, rfl, _, rfl, ?_⟩) (fun h1 => ⟨_, rfl, ?_⟩)
      · have g1 : 1 ≤ x.length := by have := of_decide_eq_true h1; omega
        by_cases h2 : x.length ≤ 8
        · rw [show decide ((x.length : Int) ≤ 8) = true from decide_eq_true (by omega)]
          refine iteF ⟨.str x, rfl, x, rfl, fun D hD => lc_it walk_str (fun i H' => H' = upd H D (.lst ((x.cps.toList.take i).map fun c => V.bl (decide (c ∈ lets.cps.toList))))) (by simp) (fun _ _ _ _ => True.intro) ?_ ?_⟩
          · rintro i y H1 H2 hi rfl ⟨rfl, c, hc, rfl⟩
            have hlt : i < x.cps.toList.length := by simpa using hi
            refine ⟨rfl, ?_⟩
            refine yes_go ?_
            refine ⟨_, rfl, c, lets, rfl, rfl, _, upd_same, ?_, ?_⟩
            · rw [List.length_map, List.length_take]
              have : x.cps.toList.length = x.length := by simp [Str.length]
              exact Nat.lt_of_le_of_lt (Nat.min_le_left _ _) (Nat.lt_of_lt_of_le hlt (by rw [this]; exact Nat.le_trans hx (by decide)))
            · rw [upd_upd]
              congr 2
              have e : x.cps.toList[i]? = some c := by simpa using hc
              rw [List.take_add_one, e]
              simp
          · rintro H1 rfl
            refine ⟨D, x.cps.toList.map fun c => decide (c ∈ lets.cps.toList), rfl, SqL.of ?_, ?_⟩
            · rw [upd_same, List.map_map, List.take_of_length_le (by simp)]
              rfl
            · have e : isName (.str x) = (x.cps.toList.map fun c => decide (c ∈ lets.cps.toList)).all id := by
                simp [isName, g1, h2, List.all_map]
              rw [← e]
              exact q _ (same_new hD)
        · rw [show decide ((x.length : Int) ≤ 8) = false from decide_eq_false (by omega)]
          have e : isName (.str x) = false := by simp [isName, h2]
          rw [e] at q
          exact iteT (q H (Same.refl H))
      · have e : isName (.str x) = false := by
          have g1 : ¬ 1 ≤ x.length := fun z => h1 (decide_eq_true (by omega))
          simp [isName, g1]
        rw [e] at q
        exact iteT (q H (Same.refl H))
    | _ => exact iteT (iteT (q H (Same.refl H)))
end
end K36
end

section
set_option Elab.async false
set_option linter.all false
set_option maxRecDepth 100000
set_option maxHeartbeats 4000000
/-! copied -/
namespace K36
open PySem L2 KZ
abbrev ka : Str := "a"
abbrev kvA : List (Key × V) := [(Sum.inr ka, V.int 3)]
abbrev sCopied : Stmt := top 5
/-- what may be copied: so deep -/
def Cp : Nat → PyData → Prop
  | _, .none => True
  | _, .bool _ => True
  | _, .int _ => True
  | _, .str _ => True
  | n + 1, .list ds => ds.length ≤ 100 ∧ ∀ d ∈ ds, Cp n d
  | n + 1, .tuple ds => ds.length ≤ 100 ∧ ∀ d ∈ ds, Cp n d
  | _ + 1, .dict ps => ps = [(.str "a", .int 3)]
  | 0, _ => False
def NoFrz (G : Hp) : Prop := ∀ b o u, G b ≠ some (.frz o u)
/-- G' holds more than G, and nothing of what H had beside G -/
def Beside (H G G' : Hp) : Prop := ∀ b, H b ≠ none → G b = none → G' b = none
def spCopied (n : Nat) (K : PySem.W.Frag) : Sp := fun vs H Q _ => ∃ v d G, vs = [v] ∧ Cp n d ∧ Same G H ∧ NoFrz G ∧ Dv K G v d ∧
  ∀ v' G' H', Same G G' → NoFrz G' → Beside H G G' → Same G' H' → Same H H' → Dv K G' v' d → Q v' H'
theorem noFrz_upd {G : Hp} {p : Addr} {o : HO} (h : NoFrz G) (ho : ∀ x u, o ≠ .frz x u) : NoFrz (upd G p o) := fun b x u e => by
  by_cases hb : b = p
  · rw [hb, upd_same] at e
    exact ho x u (Option.some.inj e)
  · rw [upd_ne hb] at e
    exact h b x u e
theorem Dvs.len {K : PySem.W.Frag} {H : Hp} : ∀ {vs : List V} {ds : List PyData}, Dvs K H vs ds → vs.length = ds.length
  | _, _, .nil => rfl
  | _, _, .cons _ t => congrArg (· + 1) (Dvs.len t)
theorem Dvs.get {K : PySem.W.Frag} {H : Hp} : ∀ {vs : List V} {ds : List PyData} {i : Nat} {v : V}, Dvs K H vs ds → vs[i]? = some v → ∃ d, ds[i]? = some d ∧ Dv K H v d
  | _, _, i, v, .nil, e => by simp at e
  | _, _, 0, v, .cons h _, e => by
    simp at e
    subst e
    exact ⟨_, rfl, h⟩
  | _, _, i + 1, v, .cons _ t, e => by
    obtain ⟨d, h1, h2⟩ := Dvs.get (i := i) t (by simpa using e)
    exact ⟨d, by simpa using h1, h2⟩
theorem Dvs.snoc {K : PySem.W.Frag} {H : Hp} : ∀ {vs : List V} {ds : List PyData} {v : V} {d : PyData}, Dvs K H vs ds → Dv K H v d → Dvs K H (vs ++ [v]) (ds ++ [d])
  | _, _, _, _, .nil, h => .cons h .nil
  | _, _, _, _, .cons h t, h' => .cons h (Dvs.snoc t h')
theorem Dvs.mono {K : PySem.W.Frag} {H H' : Hp} (e : Same H H') : ∀ {vs : List V} {ds : List PyData}, Dvs K H vs ds → Dvs K H' vs ds
  | _, _, .nil => .nil
  | _, _, .cons h t => .cons (Dv.mono e h) (Dvs.mono e t)
theorem sqT_mono {K : PySem.W.Frag} {H H' : Hp} (e : Same H H') {a : Addr} {xs : List V} (h : SqT K H a xs) : SqT K H' a xs := by
  rcases h with (h | ⟨o, h⟩) | h
  · exact .inl (.inl (e _ _ h))
  · exact .inl (.inr ⟨o, e _ _ h⟩)
  · exact .inr h
theorem dc_it {J : It} {n : Nat} {Gd : Hp → Prop} {Y : Nat → Hp → V → Hp → Prop} (w : Walk J n Gd Y) {g : TG} {tt : TT} {tk tv : TE} {vs : List Nat} {σ : L2.St} {H1 : Hp} {D : Addr} {Qd : Hp → Prop} (Pv : Nat → Hp → Prop) (h0 : Pv 0 (upd H1 D (.dK []))) (hG : ∀ i H, i ≤ n → Pv i H → Gd H)
    (hs : ∀ i x H H', i < n → Pv i H → Y i H x H' → g x (wipe σ vs) H' fun σ2 H2 => wipe σ2 vs = wipe σ vs ∧ tt σ2 H2 fun b H3 =>
      if b = true then tk σ2 H3 fun y H4 => tv σ2 H4 fun z H5 => ∃ kvs k, y = kV k ∧ H5 D = some (.dK kvs) ∧ kvs.length < sizeLine ∧ Pv (i + 1) (upd H5 D (.dK (putK kvs k z))) else Pv (i + 1) H3) (hd : ∀ H, Pv n H → Qd H) :
    ∃ W : Nat → Nat → Hp → Prop, (∃ m, W 0 m (upd H1 D (.dK []))) ∧ ∀ i m H, W i m H →
      (J.stop i H ∧ Qd H) ∨ (J.go i H ∧ ∃ Nx : Hp → Prop, (∀ H', Nx H' → ∃ m', m' < m ∧ W (i + 1) m' H') ∧ ∀ x H', J.yld i H x H' → g x (wipe σ vs) H' fun σ2 H2 => wipe σ2 vs = wipe σ vs ∧ tt σ2 H2 fun b H3 =>
        if b = true then tk σ2 H3 fun y H4 => tv σ2 H4 fun z H5 => ∃ kvs k, y = kV k ∧ H5 D = some (.dK kvs) ∧ kvs.length < sizeLine ∧ Nx (upd H5 D (.dK (putK kvs k z))) else Nx H3) := by
  refine ⟨fun i m H => m = n - i ∧ i ≤ n ∧ Pv i H, ⟨n, by simp, Nat.zero_le _, h0⟩, ?_⟩
  rintro i m H ⟨rfl, hi, p⟩
  have q := hG i H hi p
  by_cases hlt : i < n
  · exact .inr ⟨w.goes i H hlt q, Pv (i + 1), fun H' p' => ⟨n - (i + 1), by omega, rfl, hlt, p'⟩, fun x H' y => hs i x H H' hlt p (w.yields i H x H' hlt q y)⟩
  · have e : i = n := by omega
    subst e
    exact .inl ⟨w.stops H q, hd H p⟩
/-- the state of a copying comprehension behind i items -/
structure CpAt (K : PySem.W.Frag) (H G : Hp) (D : Addr) (ds : List PyData) (i : Nat) (H' : Hp) : Prop where
  ex : ∃ (Gi : Hp) (ys : List V), Same G Gi ∧ NoFrz Gi ∧ Beside H G Gi ∧ Gi D = none ∧ Same Gi H' ∧ (∀ b o, b ≠ D → H b = some o → H' b = some o) ∧ H' D = some (.lst ys) ∧ Dvs K Gi ys (ds.take i)
theorem CpAt.start {K : PySem.W.Frag} {H G : Hp} {D : Addr} {ds : List PyData} (hG : Same G H) (hn : NoFrz G) (hD : H D = none) : CpAt K H G D ds 0 (upd H D (.lst [])) :=
  ⟨G, [], Same.refl G, hn, fun _ _ z => z, hG.free hD, hG.trans (same_new hD), fun b o hb e => by rw [upd_ne hb]; exact e, upd_same, .nil⟩
/-- one more item copied -/
theorem CpAt.step {K : PySem.W.Frag} {H G H' : Hp} {D : Addr} {ds : List PyData} {i : Nat} {d : PyData} {v : V} (hDn : H D = none) (c : CpAt K H G D ds i H') (hd : ds[i]? = some d) (hv : Dv K G v d) {n : Nat} (hc : Cp n d) (hz : ds.length ≤ 100) {Q : VK}
    (h : ∀ v' H'' ys, H'' D = some (.lst ys) → ys.length < sizeLine → CpAt K H G D ds (i + 1) (upd H'' D (.lst (ys ++ [v']))) → Q v' H'') : spCopied n K [v] H' Q E0 := by
  obtain ⟨Gi, ys, s1, nf, bs, gD, s2, kp, hDl, dv⟩ := c.ex
  refine ⟨v, d, Gi, rfl, hc, s2, nf, Dv.mono s1 hv, fun v' G' H'' e1 nf' be e2 e3 dv' => ?_⟩
  have gD' : G' D = none := be D (by rw [hDl]; exact fun z => nomatch z) gD
  have hl : ys.length ≤ 100 := by
    rw [Dvs.len dv, List.length_take]
    exact Nat.le_trans (Nat.min_le_right _ _) hz
  refine h v' H'' ys (e3 _ _ hDl) (Nat.lt_of_le_of_lt hl (by decide)) ⟨G', ys ++ [v'], s1.trans e1, nf', fun b hb z => be b ?_ (bs b hb z), gD', fun b o e => ?_, fun b o hb e => ?_, upd_same, ?_⟩
  · cases q : H b with
    | none => exact absurd q hb
    | some o =>
      have hbD : b ≠ D := fun z => by
        rw [z, hDn] at q
        cases q
      rw [kp b o hbD q]
      exact fun z => nomatch z
  · rw [upd_ne (ne_of_none e gD')]
    exact e2 _ _ e
  · rw [upd_ne hb]
    exact e3 _ _ (kp b o hb e)
  · rw [List.take_add_one, hd]
    exact Dvs.snoc (Dvs.mono e1 dv) dv'

theorem dks_a {K : PySem.W.Frag} {H : Hp} {kvs : List (Key × V)} (h : Dks K H kvs [(.str "a", .int 3)]) : kvs = kvA := by
  generalize hp : [(PyData.str "a", PyData.int 3)] = ps at h
  cases h with
  | nil => cases hp
  | @cons k v kvs d ps h1 h2 =>
    injection hp with e1 e2
    injection e1 with e3 e4
    subst e4
    subst e2
    cases h2
    cases h1
    cases k with
    | inl i => cases e3
    | inr x =>
      injection e3 with e5
      subst e5
      rfl
theorem CpAt.list {K : PySem.W.Frag} {H G H' : Hp} {D : Addr} {ds : List PyData} {Q : VK} (hD : H D = none) (c : CpAt K H G D ds ds.length H')
    (q : ∀ v' G' H', Same G G' → NoFrz G' → Beside H G G' → Same G' H' → Same H H' → Dv K G' v' (.list ds) → Q v' H') : Q (.ref D) H' := by
  obtain ⟨Gi, ys, e1, nf', bs, gD, e2, kp, hl, dv⟩ := c.ex
  rw [List.take_length] at dv
  have hb : ∀ b, H b ≠ none → b ≠ D := fun b z e => z (e ▸ hD)
  refine q (.ref D) (upd Gi D (.lst ys)) H' (e1.trans (same_new gD)) (noFrz_upd nf' fun _ _ z => nomatch z) (fun b z g => by rw [upd_ne (hb b z)]; exact bs b z g) (fun b o e => ?_) (fun b o e => kp b o (hb b (by rw [e]; exact fun z => nomatch z)) e) (.lst (SqL.of upd_same) (Dvs.mono (same_new gD) dv))
  by_cases z : b = D
  · rw [z, upd_same] at e
    rw [z, hl]
    exact e
  · rw [upd_ne z] at e
    exact e2 _ _ e
theorem CpAt.tuple {K : PySem.W.Frag} {H G H' : Hp} {D : Addr} {ds : List PyData} {Q : VK} (hD : H D = none) (c : CpAt K H G D ds ds.length H')
    (q : ∀ v' G' H', Same G G' → NoFrz G' → Beside H G G' → Same G' H' → Same H H' → Dv K G' v' (.tuple ds) → Q v' H') :
    tCB (fun xs H Q => ∃ p ys, xs = [.ref p] ∧ ((SqL K H p ys ∧ ∀ l, H l = none → Q (.ref l) (upd H l (.tup ys))) ∨ (SqT K H p ys ∧ Q (.ref p) H))) (fun _ H k => k [.ref D] H) [] H' Q := by
  obtain ⟨Gi, ys, e1, nf', bs, gD, e2, kp, hl, dv⟩ := c.ex
  rw [List.take_length] at dv
  have hb : ∀ b, H b ≠ none → b ≠ D := fun b z e => z (e ▸ hD)
  refine ⟨D, ys, rfl, .inl ⟨SqL.of hl, fun l hn => ?_⟩⟩
  have hl' : ∀ b, H b ≠ none → b ≠ l := fun b z e => by
    cases y : H b with
    | none => exact z y
    | some o =>
      have w := kp b o (hb b z) y
      rw [e, hn] at w
      cases w
  have gl : Gi l = none := e2.free hn
  refine q (.ref l) (upd Gi l (.tup ys)) _ (e1.trans (same_new gl)) (noFrz_upd nf' fun _ _ z => nomatch z) (fun b z g => by rw [upd_ne (hl' b z)]; exact bs b z g) (fun b o e => ?_) (fun b o e => ?_) (.tup (.inl (.inl upd_same)) (Dvs.mono (same_new gl) dv))
  · by_cases z : b = l
    · rw [z, upd_same] at e ⊢
      exact e
    · rw [upd_ne z] at e ⊢
      exact e2 _ _ e
  · have z : H b ≠ none := by rw [e]; exact fun z => nomatch z
    rw [upd_ne (hl' b z)]
    exact kp b o (hb b z) e
section
variable {P : Program} {w : World} {K : PySem.W.Frag} {mg : Str → Option Value} {base : Heap}
theorem scCopied : FnScope ["value", "part", "key"] ["value"] (defScope sCopied) := ⟨rfl, rfl, rfl, by decide +kernel, rfl, by decide +kernel, by decide +kernel⟩
theorem ok_copied {f : Addr} {fd : FuncData} (F : Fun K "copied" "copied" sCopied f fd) (T : B0 mg) (hm : mg "copied" = some (.ref f)) (b : Binds K fd ["value"] []) : ∀ n, FnOk P w K mg base CX0 (n + 1) f fd ["value"] (spCopied n K) := by
  intro n
  induction n with
  | zero =>
    refine F.ok scCopied (fun vs H Q E h => ?_) (fun cdv A outer s H vs Q E hr h => ?_)
    · obtain ⟨v, d, G, rfl, _⟩ := h
      rfl
    · obtain ⟨v, d, G, rfl, hc, s1, nf, hd, q⟩ := h
      have tst : ∀ c : String, c ∈ clsL → isT c d = true → c = "int" ∨ c = "bool" ∨ c = "str" := fun c hc' e => by
        simp only [clsL, List.mem_cons, List.not_mem_nil, or_false] at hc'
        rcases hc' with rfl | rfl | rfl | rfl | rfl | rfl <;> cases d <;> simp_all [isT, Cp]
      refine ⟨_, pss_cons (ps_if (pt_val (pe_callB (call_isD (c := "list")) (by rfl) T.isi (by decide +kernel) (pa_cons (pv 0) (pa_cons (pe_bltn (v := .ty "list") (by rfl) T.list (by decide +kernel) rfl) pa_nil)))) (pss_one ps_never) pss_nil)
        (pss_cons (ps_if (pt_val (pe_callB (call_isD (c := "tuple")) (by rfl) T.isi (by decide +kernel) (pa_cons (pv 0) (pa_cons (pe_bltn (v := .ty "tuple") (by rfl) T.tuple (by decide +kernel) rfl) pa_nil)))) (pss_one ps_never) pss_nil)
        (pss_cons (ps_if (pt_val (pe_callB (call_isD (c := "dict")) (by rfl) T.isi (by decide +kernel) (pa_cons (pv 0) (pa_cons (pe_bltn (v := .ty "dict") (by rfl) T.dict (by decide +kernel) rfl) pa_nil)))) (pss_one ps_never) pss_nil)
        (pss_one (ps_ret (pv 0))))), ?_⟩
      have no : ∀ c : String, c ∈ ["list", "tuple", "dict"] → isT c d = false := fun c hc' => by
        simp only [List.mem_cons, List.not_mem_nil, or_false] at hc'
        rcases hc' with rfl | rfl | rfl <;> cases d <;> simp_all [isT, Cp]
      refine ⟨v, rfl, v, d, rfl, Dv.mono s1 hd, _, rfl, ?_⟩
      rw [no "list" (by simp)]
      refine iteF ⟨v, rfl, v, d, rfl, Dv.mono s1 hd, _, rfl, ?_⟩
      rw [no "tuple" (by simp)]
      refine iteF ⟨v, rfl, v, d, rfl, Dv.mono s1 hd, _, rfl, ?_⟩
      rw [no "dict" (by simp)]
      exact iteF ⟨v, rfl, q v G H (Same.refl G) nf (fun _ _ z => z) s1 (Same.refl H) hd⟩
  | succ n ih =>
    refine F.ok scCopied (fun vs H Q E h => ?_) (fun cdv A outer s H vs Q E hr h => ?_)
    · obtain ⟨v, d, G, rfl, _⟩ := h
      rfl
    · obtain ⟨v, d, G, rfl, hc, s1, nf, hd, q⟩ := h
      have hu := hu_of hr
      refine ⟨_, pss_cons (ps_if (pt_val (pe_callB (call_isD (c := "list")) (by rfl) T.isi (by decide +kernel) (pa_cons (pv 0) (pa_cons (pe_bltn (v := .ty "list") (by rfl) T.list (by decide +kernel) rfl) pa_nil))))
          (pss_one (ps_ret (pe_lc (own := [("part", 1)]) (g := gName 1) (tt := tYes) (by rfl) scCopied.nd (pi_list (pv 0)) (blkOk_by (own := [("part", 1)]) (N := ["value", "part", "key"]) (sc := defScope sCopied) (by decide +kernel))
            (fun _ _ _ _ _ => pg_name (i := 1) scCopied.nd rfl (Or.inl rfl)) (fun _ _ _ _ _ => pts_nil) (fun _ _ _ _ _ => pe_call ih hr (by rfl) hm F.kp b .nil pass0 (pa_cons (pv 1) pa_nil))))) pss_nil)
        (pss_cons (ps_if (pt_val (pe_callB (call_isD (c := "tuple")) (by rfl) T.isi (by decide +kernel) (pa_cons (pv 0) (pa_cons (pe_bltn (v := .ty "tuple") (by rfl) T.tuple (by decide +kernel) rfl) pa_nil))))
          (pss_one (ps_ret (pe_callTy call_tuple_of (by rfl) T.tuple (by decide +kernel) (pa_cons (pe_lc (own := [("part", 1)]) (g := gName 1) (tt := tYes) (by rfl) scCopied.nd (pi_tup (pv 0)) (blkOk_by (own := [("part", 1)]) (N := ["value", "part", "key"]) (sc := defScope sCopied) (by decide +kernel))
            (fun _ _ _ _ _ => pg_name (i := 1) scCopied.nd rfl (Or.inl rfl)) (fun _ _ _ _ _ => pts_nil) (fun _ _ _ _ _ => pe_call ih hr (by rfl) hm F.kp b .nil pass0 (pa_cons (pv 1) pa_nil))) pa_nil)))) pss_nil)
        (pss_cons (ps_if (pt_val (pe_callB (call_isD (c := "dict")) (by rfl) T.isi (by decide +kernel) (pa_cons (pv 0) (pa_cons (pe_bltn (v := .ty "dict") (by rfl) T.dict (by decide +kernel) rfl) pa_nil))))
          (pss_one (ps_ret (pe_lock (pe_dc (own := [("key", 2)]) (g := gName 2) (tt := tYes) (by rfl) scCopied.nd (pi_keys (pv 0)) (blkOk_by (own := [("key", 2)]) (N := ["value", "part", "key"]) (sc := defScope sCopied) (by decide +kernel))
            (fun _ _ _ _ _ => pg_name (i := 2) scCopied.nd rfl (Or.inl rfl)) (fun _ _ _ _ _ => pts_nil) (fun _ _ _ _ _ => pv 2) (fun _ _ _ _ _ => pe_call ih hr (by rfl) hm F.kp b .nil pass0 (pa_cons (pe_dget hu (pv 0) (pv 2) (fun _ _ => rfl)) pa_nil)))))) pss_nil)
        (pss_one (ps_ret (pv 0))))), ?_⟩
      have hd' := Dv.mono s1 hd
      refine ⟨v, rfl, v, d, rfl, hd', _, rfl, ?_⟩
      cases d with
      | list ds =>
        refine iteT ?_
        obtain ⟨hz, hcs⟩ := hc
        cases hd with
        | @lst a xs _ hs ha =>
          refine ⟨_, rfl, a, rfl, ⟨xs, s1.seq hs⟩, fun D hD => lc_list (K := K) (a := a) (xs := xs) (CpAt K H G D ds) (CpAt.start s1 nf hD) (fun i H' _ c => ?_) (fun i x H' hi c => ⟨rfl, yes_go ?_⟩) (fun H' c => ?_)⟩
          · obtain ⟨Gi, ys, e1, _, _, _, e2, _⟩ := c.ex
            exact (e1.trans e2).seq hs
          · obtain ⟨d, hdi, hv⟩ := Dvs.get ha hi
            refine ⟨x, rfl, c.step hD hdi hv (hcs d (List.mem_of_getElem? hdi)) hz fun v' H'' ys e1 e2 c' => ⟨ys, e1, e2, c'⟩⟩
          · rw [Dvs.len ha] at c
            exact CpAt.list hD c q
      | tuple ds =>
        refine iteF ⟨v, rfl, v, _, rfl, hd', _, rfl, ?_⟩
        refine iteT ?_
        obtain ⟨hz, hcs⟩ := hc
        cases hd with
        | @tup a xs _ hs ha =>
          refine ⟨_, rfl, a, rfl, ⟨xs, sqT_mono s1 hs⟩, fun D hD => lc_tup (K := K) (a := a) (xs := xs) (CpAt K H G D ds) (CpAt.start s1 nf hD) (fun i H' _ c => ?_) (fun i x H' hi c => ⟨rfl, yes_go ?_⟩) (fun H' c => ?_)⟩
          · obtain ⟨Gi, ys, e1, _, _, _, e2, _⟩ := c.ex
            exact sqT_mono (e1.trans e2) hs
          · obtain ⟨d, hdi, hv⟩ := Dvs.get ha hi
            refine ⟨x, rfl, c.step hD hdi hv (hcs d (List.mem_of_getElem? hdi)) hz fun v' H'' ys e1 e2 c' => ⟨ys, e1, e2, c'⟩⟩
          · rw [Dvs.len ha] at c
            exact CpAt.tuple hD c q
      | dict ps =>
        refine iteF ⟨v, rfl, v, _, rfl, hd', _, rfl, ?_⟩
        refine iteF ⟨v, rfl, v, _, rfl, hd', _, rfl, ?_⟩
        refine iteT ?_
        obtain rfl : ps = [(.str "a", .int 3)] := hc
        cases hd with
        | @dic a kvs _ hs ha =>
          obtain rfl := dks_a ha
          have hH : H a = some (.dK kvA) := by
            rcases hs with z | ⟨o, z⟩
            · exact s1 _ _ z
            · exact absurd z (nf _ _ _)
          refine ⟨a, _, hH, True.intro, fun od => ⟨_, rfl, a, od, rfl, .inl ⟨_, upd_same, fun D hD => ?_⟩⟩⟩
          have key : ∀ H1, H1 D = some (.dK kvA) → (∀ b o, b ≠ D → b ≠ a → H b = some o → H1 b = some o) → H1 a = some (.frz od (.dK kvA)) → Q (.ref D) (upd H1 a (.dK kvA)) := fun H1 e1 e2 e3 => by
            have hDa : D ≠ a := fun z => by
              rw [z, upd_same] at hD
              cases hD
            have hb : ∀ b, H b ≠ none → b ≠ D := fun b z e => by
              rw [← e, upd_ne (e ▸ hDa)] at hD
              exact z hD
            have gD : G D = none := by
              cases y : G D with
              | none => rfl
              | some o => exact absurd rfl (hb D (by rw [s1 _ _ y]; exact fun z => nomatch z))
            have s3 : Same H (upd H1 a (.dK kvA)) := fun b o e => by
              by_cases z : b = a
              · rw [z, hH] at e
                rw [z, upd_same]
                exact e
              · rw [upd_ne z]
                exact e2 b o (hb b (by rw [e]; exact fun z => nomatch z)) z e
            refine q (.ref D) (upd G D (.dK kvA)) _ (same_new gD) (noFrz_upd nf fun _ _ z => nomatch z) (fun b z g => by rw [upd_ne (hb b z)]; exact g) (fun b o e => ?_) s3 (.dic (.inl upd_same) (.cons (.int 3) .nil))
            by_cases z : b = D
            · rw [z, upd_same] at e
              rw [z, upd_ne hDa, e1]
              exact e
            · rw [upd_ne z] at e
              exact s3 _ _ (s1 _ _ e)
          have hDa : D ≠ a := fun z => by
            rw [z, upd_same] at hD
            cases hD
          refine dc_it (walk_keys (d := a) (o := od) (kvs := kvA)) (fun i H1 => (∀ b o, b ≠ D → b ≠ a → H b = some o → H1 b = some o) ∧ H1 a = some (.frz od (.dK kvA)) ∧ H1 D = some (.dK (kvA.take i))) ?_ (fun i H1 _ c => c.2.1) ?_ ?_
          · exact ⟨fun b o h1 h2 e => by rw [upd_ne h1, upd_ne h2]; exact e, by rw [upd_ne (Ne.symm hDa), upd_same], upd_same⟩
          · rintro i x H1 H2 hi ⟨c1, c2, c3⟩ ⟨rfl, k, vv, hk, rfl⟩
            have i0 : i = 0 := by
              have : i < 1 := hi
              omega
            subst i0
            cases hk
            refine ⟨rfl, yes_go ?_⟩
            refine ⟨_, rfl, .ref a, rfl, _, rfl, a, _, rfl, .inl ⟨kvA, Sum.inr ka, .inr ⟨od, c2⟩, rfl, rfl⟩, ?_⟩
            refine ⟨.int 3, .int 3, fun _ => none, rfl, by cases n <;> exact True.intro, (fun _ _ z => nomatch z), (fun _ _ _ z => nomatch z), .int 3, fun v' G' H' e1 e2 e3 e4 e5 e6 => ?_⟩
            cases e6
            refine ⟨[], Sum.inr ka, rfl, e5 _ _ c3, by decide, fun b o h1 h2 e => ?_, ?_, ?_⟩
            · rw [upd_ne h1]
              exact e5 _ _ (c1 b o h1 h2 e)
            · rw [upd_ne (Ne.symm hDa)]
              exact e5 _ _ c2
            · rw [upd_same]
              rfl
          · rintro H1 ⟨c1, c2, c3⟩
            exact ⟨c2, key H1 c3 c1 c2⟩
      | none => exact iteF ⟨v, rfl, v, _, rfl, hd', _, rfl, iteF ⟨v, rfl, v, _, rfl, hd', _, rfl, iteF ⟨v, rfl, q v G H (Same.refl G) nf (fun _ _ z => z) s1 (Same.refl H) hd⟩⟩⟩
      | bool _ => exact iteF ⟨v, rfl, v, _, rfl, hd', _, rfl, iteF ⟨v, rfl, v, _, rfl, hd', _, rfl, iteF ⟨v, rfl, q v G H (Same.refl G) nf (fun _ _ z => z) s1 (Same.refl H) hd⟩⟩⟩
      | int _ => exact iteF ⟨v, rfl, v, _, rfl, hd', _, rfl, iteF ⟨v, rfl, v, _, rfl, hd', _, rfl, iteF ⟨v, rfl, q v G H (Same.refl G) nf (fun _ _ z => z) s1 (Same.refl H) hd⟩⟩⟩
      | str _ => exact iteF ⟨v, rfl, v, _, rfl, hd', _, rfl, iteF ⟨v, rfl, v, _, rfl, hd', _, rfl, iteF ⟨v, rfl, q v G H (Same.refl G) nf (fun _ _ z => z) s1 (Same.refl H) hd⟩⟩⟩
end
end K36
end

section
set_option Elab.async false
set_option linter.all false
set_option maxRecDepth 100000
set_option maxHeartbeats 4000000
/-! the errors' __init__ -/
namespace K36
open PySem L2 KZ
/-- what the written part says of an error class: its name, its __init__, its fields -/
structure ErrC (K : PySem.W.Frag) (mg : Str → Option Value) (nm : Str) (C fI : Addr) (fs : List Str) : Prop where
  ox : OexC K C
  ex : ExcT K C
  ini : PySem.W.findIn K (.ref C) "__init__" = some (some (.ref fI))
  ti : PySem.W.typeIn K (.ref fI) = some (.type "function")
  no : ∀ f ∈ fs, PySem.W.findIn K (.ref C) f = some none
  gl : mg nm = some (.ref C)
/-- self.f = copied(x) -/
def spE1 (K : PySem.W.Frag) (C : Addr) (f : Str) : Sp := fun vs H Q _ => ∃ a v d G, vs = [.ref a, v] ∧ Cp 3 d ∧ Same G H ∧ NoFrz G ∧ G a = none ∧ Dv K G v d ∧ H a = some (exo a C none) ∧
  ∀ v' G' dx H', Same G G' → NoFrz G' → Beside H G G' → G' a = none → G' dx = none → H dx = none → dx ≠ a → Same G' H' → (∀ b o, b ≠ a → H b = some o → H' b = some o) → H' a = some (exo a C (some dx)) → H' dx = some (exd dx [(f, v')]) → Dv K G' v' d → Q .non H'
/-- self.f = copied(x); self.g = copied(y) -/
def spE2 (K : PySem.W.Frag) (C : Addr) (f g : Str) : Sp := fun vs H Q _ => ∃ a v u d e G, vs = [.ref a, v, u] ∧ Cp 3 d ∧ Cp 3 e ∧ Same G H ∧ NoFrz G ∧ G a = none ∧ Dv K G v d ∧ Dv K G u e ∧ H a = some (exo a C none) ∧
  ∀ v' u' G' dx H', Same G G' → NoFrz G' → Beside H G G' → G' a = none → G' dx = none → H dx = none → dx ≠ a → Same G' H' → (∀ b o, b ≠ a → H b = some o → H' b = some o) → H' a = some (exo a C (some dx)) → H' dx = some (exd dx [(g, u'), (f, v')]) → Dv K G' v' d → Dv K G' u' e → Q .non H'
section
variable {P : Program} {w : World} {K : PySem.W.Frag} {mg : Str → Option Value} {base : Heap} {fC : Addr} {dC : FuncData}
theorem ok_init1 {C f : Addr} {fd : FuncData} {q x fld : Str} {st : Stmt} {p1 p2 p3 p4 p5 p6 : Pos} (hb : defBody st = [.Assign [.Attribute (.Name "self" p1) fld p2] (.Call (.Name "copied" p3) [.Name x p4] [] p5) p6])
    (S : FnScope ["self", x] ["self", x] (defScope st)) (hs : (defScope st).names.lookup ("self" : Str) = some .local) (hx : (defScope st).names.lookup x = some .local) (hc : (defScope st).names.lookup ("copied" : Str) = some .globalImplicit)
    (hd : (x == ("__debug__" : Str)) = false) (hcd : (x == ("__classdict__" : Str)) = false) (F : Fun K "__init__" q st f fd) (ox : OexC K C) (no : PySem.W.findIn K (.ref C) fld = some none)
    (T : B0 mg) (gC : mg "copied" = some (.ref fC)) (FC : Fun K "copied" "copied" sCopied fC dC) (bC : Binds K dC ["value"] []) : FnOk P w K mg base CX0 5 f fd ["self", x] (spE1 K C fld) := by
  have GC : FnOk P w K mg base CX0 4 fC dC ["value"] (spCopied 3 K) := ok_copied FC T gC bC 3
  refine F.ok S (fun vs H Q E h => ?_) (fun cdv A outer s H vs Q E hr h => ?_)
  · obtain ⟨a, v, d, G, rfl, _⟩ := h
    rfl
  · obtain ⟨a, v, d, G, rfl, hcp, s1, nf, ga, hv, ha, q⟩ := h
    rw [hb]
    refine ⟨_, pss_one (ps_ost (pe_var (i := 0) rfl (.inl hs)) (pe_call GC hr hc gC FC.kp bC .nil pass0 (pa_cons (pe_var (i := 1) rfl (.inl hx) hd hcd) pa_nil))), ?_⟩
    refine ⟨v, rfl, v, d, G, rfl, hcp, s1, nf, hv, fun v' G' H' e1 e2 e3 e4 e5 e6 => ?_⟩
    have ga' : G' a = none := e3 a (by rw [ha]; exact fun z => nomatch z) ga
    refine ⟨_, rfl, a, C, rfl, ox, no, .inl ⟨e5 _ _ ha, fun dx hdx ne => ?_⟩⟩
    have gd : G' dx = none := e4.free hdx
    refine q v' G' dx _ e1 e2 e3 ga' gd (e5.free hdx) ne (fun b o e => ?_) (fun b o hb e => ?_) upd_same (by rw [upd_ne ne, upd_same]) e6
    · rw [upd_ne (ne_of_none e ga'), upd_ne (ne_of_none e gd)]
      exact e4 _ _ e
    · rw [upd_ne hb, upd_ne (ne_of_none (e5 _ _ e) hdx)]
      exact e5 _ _ e
theorem ok_init2 {C f : Addr} {fd : FuncData} {q x y fld gld : Str} {st : Stmt} {p1 p2 p3 p4 p5 p6 q1 q2 q3 q4 q5 q6 : Pos}
    (hb : defBody st = [.Assign [.Attribute (.Name "self" p1) fld p2] (.Call (.Name "copied" p3) [.Name x p4] [] p5) p6, .Assign [.Attribute (.Name "self" q1) gld q2] (.Call (.Name "copied" q3) [.Name y q4] [] q5) q6])
    (S : FnScope ["self", x, y] ["self", x, y] (defScope st)) (hs : (defScope st).names.lookup ("self" : Str) = some .local) (hx : (defScope st).names.lookup x = some .local) (hy : (defScope st).names.lookup y = some .local) (hc : (defScope st).names.lookup ("copied" : Str) = some .globalImplicit)
    (hd : (x == ("__debug__" : Str)) = false) (hcd : (x == ("__classdict__" : Str)) = false) (hd2 : (y == ("__debug__" : Str)) = false) (hcd2 : (y == ("__classdict__" : Str)) = false) (F : Fun K "__init__" q st f fd) (ox : OexC K C)
    (no : PySem.W.findIn K (.ref C) fld = some none) (no2 : PySem.W.findIn K (.ref C) gld = some none)
    (T : B0 mg) (gC : mg "copied" = some (.ref fC)) (FC : Fun K "copied" "copied" sCopied fC dC) (bC : Binds K dC ["value"] []) : FnOk P w K mg base CX0 5 f fd ["self", x, y] (spE2 K C fld gld) := by
  have GC : FnOk P w K mg base CX0 4 fC dC ["value"] (spCopied 3 K) := ok_copied FC T gC bC 3
  refine F.ok S (fun vs H Q E h => ?_) (fun cdv A outer s H vs Q E hr h => ?_)
  · obtain ⟨a, v, u, d, e, G, rfl, _⟩ := h
    rfl
  · obtain ⟨a, v, u, d, e, G, rfl, hcp, hcp2, s1, nf, ga, hv, hu, ha, q⟩ := h
    rw [hb]
    refine ⟨_, pss_cons (ps_ost (pe_var (i := 0) rfl (.inl hs)) (pe_call GC hr hc gC FC.kp bC .nil pass0 (pa_cons (pe_var (i := 1) rfl (.inl hx) hd hcd) pa_nil)))
      (pss_one (ps_ost (pe_var (i := 0) rfl (.inl hs)) (pe_call GC hr hc gC FC.kp bC .nil pass0 (pa_cons (pe_var (i := 2) rfl (.inl hy) hd2 hcd2) pa_nil)))), ?_⟩
    refine ⟨v, rfl, v, d, G, rfl, hcp, s1, nf, hv, fun v' G' H' e1 e2 e3 e4 e5 e6 => ?_⟩
    have ga' : G' a = none := e3 a (by rw [ha]; exact fun z => nomatch z) ga
    refine ⟨_, rfl, a, C, rfl, ox, no, .inl ⟨e5 _ _ ha, fun dx hdx ne => ?_⟩⟩
    have gd : G' dx = none := e4.free hdx
    have s2 : Same G' (upd (upd H' dx (exd dx [(fld, v')])) a (exo a C (some dx))) := fun b o z => by
      rw [upd_ne (ne_of_none z ga'), upd_ne (ne_of_none z gd)]
      exact e4 _ _ z
    refine ⟨u, rfl, u, e, G', rfl, hcp2, s2, e2, Dv.mono e1 hu, fun u' G2 H2 f1 f2 f3 f4 f5 f6 => ?_⟩
    have nn : ∀ b o, H b = some o → (upd (upd H' dx (exd dx [(fld, v')])) a (exo a C (some dx))) b ≠ none := fun b o z => by
      by_cases hba : b = a
      · rw [hba, upd_same]
        exact fun z => nomatch z
      · rw [upd_ne hba, upd_ne (ne_of_none (e5 _ _ z) hdx), e5 _ _ z]
        exact fun z => nomatch z
    have ga2 : G2 a = none := f3 a (by rw [upd_same]; exact fun z => nomatch z) ga'
    have gd2 : G2 dx = none := f3 dx (by rw [upd_ne ne, upd_same]; exact fun z => nomatch z) gd
    have ha2 : H2 a = some (exo a C (some dx)) := f5 _ _ upd_same
    have hd2 : H2 dx = some (exd dx [(fld, v')]) := f5 _ _ (by rw [upd_ne ne, upd_same])
    refine ⟨_, rfl, a, C, rfl, ox, no2, .inr ⟨dx, _, ha2, hd2, (show 1 ≤ 900 by decide), ?_⟩⟩
    refine q v' u' G2 dx _ (e1.trans f1) f2 (fun b z g => ?_) ga2 gd2 (e5.free hdx) ne (fun b o z => ?_) (fun b o hb z => ?_) (by rw [upd_ne (Ne.symm ne)]; exact ha2) upd_same (Dv.mono f1 e6) f6
    · cases y : H b with
      | none => exact absurd y z
      | some o => exact f3 b (nn b o y) (e3 b z g)
    · rw [upd_ne (ne_of_none z gd2)]
      exact f4 _ _ z
    · have hbd : b ≠ dx := ne_of_none (e5 _ _ z) hdx
      rw [upd_ne hbd]
      exact f5 _ _ (by rw [upd_ne hb, upd_ne hbd]; exact e5 _ _ z)
end
end K36
end

section
set_option Elab.async false
set_option linter.all false
set_option maxRecDepth 100000
set_option maxHeartbeats 4000000
/-! errors made of data, as one rule each -/
namespace K36
open PySem L2 KZ
def tUp (ta : TA) : TA := fun σ H Q => ∃ R : List V → Hp → Prop, ta σ H R ∧ ∀ vs H1, R vs H1 → Q vs H1
theorem pa_up {X : Cx} {es : List Expr} {ta : TA} (h : PA X es ta) : PA X es (tUp ta) :=
  ⟨fun pos pins s σ H Q I ⟨R, q, m⟩ => wpAny_mono (h.run pos pins s σ H R I q) (fun us s1 ⟨vs, H1, I1, r, z⟩ => ⟨vs, H1, I1, r, m _ _ z⟩) fun _ _ z => z⟩
theorem pk_up {X : Cx} {es : List Keyword} {ta : TA} (h : PK X es ta) : PK X es (tUp ta) :=
  ⟨fun pos pins s σ H Q I ⟨R, q, m⟩ => wpAny_mono (h.run pos pins s σ H R I q) (fun us s1 ⟨vs, H1, I1, r, z⟩ => ⟨vs, H1, I1, r, m _ _ z⟩) fun _ _ z => z⟩
theorem pe_conv {X : Cx} {e : Expr} {t u : TE} (h : PE X e t) (c : ∀ σ H Q, u σ H Q → t σ H Q) : PE X e u := ⟨fun pins s σ H Q I z => h.run pins s σ H Q I (c _ _ _ z)⟩
/-- at a: an error of the class C, its fields hold the data -/
def EAt (K : PySem.W.Frag) (H : Hp) (a C : Addr) (fds : List (Str × PyData)) : Prop :=
  ∃ dd fs, H a = some (EXO C a (some dd)) ∧ XD H dd fs ∧ ∀ p ∈ fds, ∃ v, fs.lookup p.1 = some v ∧ Dv K H v p.2
theorem XD.mono {H H' : Hp} {dd : Addr} {fs : List (Str × V)} (s : Same H H') (h : XD H dd fs) : XD H' dd fs := h.imp (s _ _) (s _ _)
theorem EAt.mono {K : PySem.W.Frag} {H H' : Hp} {a C : Addr} {fds : List (Str × PyData)} (s : Same H H') (h : EAt K H a C fds) : EAt K H' a C fds := by
  obtain ⟨dd, fs, e1, e2, e3⟩ := h
  exact ⟨dd, fs, s _ _ e1, XD.mono s e2, fun p hp => let ⟨v, l, d⟩ := e3 p hp; ⟨v, l, Dv.mono s d⟩⟩
/-- at a: an error of the class C -/
def IsErr (H : Hp) (a C : Addr) : Prop := ∃ d, H a = some (EXO C a d) ∧ ∀ dd, d = some dd → ∃ fs, XD H dd fs
theorem IsErr.mono {H H' : Hp} {a C : Addr} (s : Same H H') (h : IsErr H a C) : IsErr H' a C := by
  obtain ⟨d, e1, e2⟩ := h
  exact ⟨d, s _ _ e1, fun dd e => let ⟨fs, z⟩ := e2 dd e; ⟨fs, XD.mono s z⟩⟩
theorem EAt.is {K : PySem.W.Frag} {H : Hp} {a C : Addr} {fds : List (Str × PyData)} (h : EAt K H a C fds) : IsErr H a C := by
  obtain ⟨dd, fs, e1, e2, _⟩ := h
  exact ⟨some dd, e1, fun _ z => by cases z; exact ⟨fs, e2⟩⟩
theorem ef_go {K : PySem.W.Frag} {H : Hp} {a C : Addr} {fds : List (Str × PyData)} {n : Str} {d : PyData} {Q : V → Prop} (T : ExcT K C) (no : PySem.W.findIn K (.ref C) n = some none) (h : EAt K H a C fds) (hm : (n, d) ∈ fds) (q : ∀ v, Dv K H v d → Q v) :
    ∃ (a' C' dd : Addr) (fs : List (Str × V)) (v : V), V.ref a = .ref a' ∧ ExcT K C' ∧ PySem.W.findIn K (.ref C') n = some none ∧ H a' = some (EXO C' a' (some dd)) ∧ XD H dd fs ∧ fs.lookup n = some v ∧ Q v := by
  obtain ⟨dd, fs, e1, e2, e3⟩ := h
  obtain ⟨v, l, z⟩ := e3 _ hm
  exact ⟨a, C, dd, fs, v, rfl, T, no, e1, e2, l, q v z⟩
structure Mk1 (P : Program) (w : World) (K : PySem.W.Frag) (mg : Str → Option Value) (base : Heap) (nm : Str) (C : Addr) (x fld : Str) : Prop where
  has : ∃ fI dI, ErrC K mg nm C fI [fld] ∧ FnOk P w K mg base CX0 5 fI dI ["self", x] (spE1 K C fld) ∧ Binds K dI ["self", x] [] ∧ KBinds K dI ["self", x] [x] (fun us ws => us ++ ws.take 1) fun vs zs => vs ++ zs.take 1
structure Mk2 (P : Program) (w : World) (K : PySem.W.Frag) (mg : Str → Option Value) (base : Heap) (nm : Str) (C : Addr) (x y fld gld : Str) : Prop where
  has : ∃ fI dI, ErrC K mg nm C fI [fld, gld] ∧ FnOk P w K mg base CX0 5 fI dI ["self", x, y] (spE2 K C fld gld) ∧ Binds K dI ["self", x, y] [] ∧ KBinds K dI ["self", x, y] [y, x] (fun us ws => us ++ (ws.take 2).reverse) fun vs zs => vs ++ (zs.take 2).reverse
theorem Mk1.facts {P : Program} {w : World} {K : PySem.W.Frag} {mg : Str → Option Value} {base : Heap} {nm x fld : Str} {C : Addr} (M : Mk1 P w K mg base nm C x fld) : ExcT K C ∧ PySem.W.findIn K (.ref C) fld = some none :=
  let ⟨_, _, E, _⟩ := M.has
  ⟨E.ex, E.no _ List.mem_cons_self⟩
theorem Mk2.facts {P : Program} {w : World} {K : PySem.W.Frag} {mg : Str → Option Value} {base : Heap} {nm x y fld gld : Str} {C : Addr} (M : Mk2 P w K mg base nm C x y fld gld) : ExcT K C ∧ PySem.W.findIn K (.ref C) fld = some none ∧ PySem.W.findIn K (.ref C) gld = some none :=
  let ⟨_, _, E, _⟩ := M.has
  ⟨E.ex, E.no _ List.mem_cons_self, E.no _ (List.mem_cons_of_mem _ List.mem_cons_self)⟩
section
variable {K : PySem.W.Frag}
theorem e1_go {C a : Addr} {fld : Str} {v : V} {d : PyData} {G H : Hp} {Q : VK} (cp : Cp 3 d) (s : Same G H) (nf : NoFrz G) (hv : Dv K G v d) (ha : H a = none) (k : ∀ H', Same H H' → EAt K H' a C [(fld, d)] → Q (.ref a) H') :
    spE1 K C fld [.ref a, v] (upd H a (exo a C none)) (fun v H2 => v = .non ∧ ∃ d, H2 a = some (exo a C (some d)) ∧ Q (.ref a) (upd H2 a (EXO C a (some d)))) (fun _ _ _ => False) := by
  refine ⟨a, v, d, G, rfl, cp, s.trans (same_new ha), nf, s.free ha, hv, upd_same, fun v' G' dx H' s1 nf' bs ga gd hdx ne s' kp ea ed dv' => ⟨rfl, dx, ea, k _ (fun b o e => ?_) ⟨dx, [(fld, v')], upd_same, .inl (by rw [upd_ne ne]; exact ed), fun p hp => ?_⟩⟩⟩
  · have hb : b ≠ a := ne_of_none e ha
    rw [upd_ne hb]
    exact kp _ _ hb (by rw [upd_ne hb]; exact e)
  · rw [List.mem_singleton] at hp
    subst hp
    refine ⟨v', by simp, Dv.mono (fun b o e => ?_) dv'⟩
    rw [upd_ne (ne_of_none e ga)]
    exact s' _ _ e
theorem e2_go {C a : Addr} {fld gld : Str} {v u : V} {d e : PyData} {G H : Hp} {Q : VK} (hfg : gld ≠ fld) (cp : Cp 3 d) (cp2 : Cp 3 e) (s : Same G H) (nf : NoFrz G) (hv : Dv K G v d) (hu : Dv K G u e) (ha : H a = none) (k : ∀ H', Same H H' → EAt K H' a C [(fld, d), (gld, e)] → Q (.ref a) H') :
    spE2 K C fld gld [.ref a, v, u] (upd H a (exo a C none)) (fun v H2 => v = .non ∧ ∃ d, H2 a = some (exo a C (some d)) ∧ Q (.ref a) (upd H2 a (EXO C a (some d)))) (fun _ _ _ => False) := by
  refine ⟨a, v, u, d, e, G, rfl, cp, cp2, s.trans (same_new ha), nf, s.free ha, hv, hu, upd_same, fun v' u' G' dx H' s1 nf' bs ga gd hdx ne s' kp ea ed dv' du' => ⟨rfl, dx, ea, k _ (fun b o e => ?_) ⟨dx, [(gld, u'), (fld, v')], upd_same, .inl (by rw [upd_ne ne]; exact ed), fun p hp => ?_⟩⟩⟩
  · have hb : b ≠ a := ne_of_none e ha
    rw [upd_ne hb]
    exact kp _ _ hb (by rw [upd_ne hb]; exact e)
  · have m : Same G' (upd H' a (EXO C a (some dx))) := fun b o e => by
      rw [upd_ne (ne_of_none e ga)]
      exact s' _ _ e
    rcases List.mem_cons.mp hp with z | z
    · subst z
      refine ⟨v', ?_, Dv.mono m dv'⟩
      rw [List.lookup_cons]
      rw [show (fld == gld) = false from by simpa using fun z => hfg z.symm]
      simp
    · rw [List.mem_singleton] at z
      subst z
      exact ⟨u', by simp, Dv.mono m du'⟩
end
def tMk1 (K : PySem.W.Frag) (C : Addr) (fld : Str) (ta : TA) : TE := fun σ H Q => ta σ H fun vs H1 => ∃ v d G, vs = [v] ∧ Cp 3 d ∧ Same G H1 ∧ NoFrz G ∧ Dv K G v d ∧ ∀ a H', H1 a = none → Same H1 H' → EAt K H' a C [(fld, d)] → Q (.ref a) H'
def tMk2 (K : PySem.W.Frag) (C : Addr) (fld gld : Str) (ta : TA) : TE := fun σ H Q => ta σ H fun vs H1 => ∃ v u d e G, vs = [v, u] ∧ Cp 3 d ∧ Cp 3 e ∧ Same G H1 ∧ NoFrz G ∧ Dv K G v d ∧ Dv K G u e ∧ ∀ a H', H1 a = none → Same H1 H' → EAt K H' a C [(fld, d), (gld, e)] → Q (.ref a) H'
/-- the keywords the other way round -/
def tMkK2 (K : PySem.W.Frag) (C : Addr) (fld gld : Str) (ta : TA) : TE := fun σ H Q => ta σ H fun vs H1 => ∃ v u d e G, vs = [u, v] ∧ Cp 3 d ∧ Cp 3 e ∧ Same G H1 ∧ NoFrz G ∧ Dv K G v d ∧ Dv K G u e ∧ ∀ a H', H1 a = none → Same H1 H' → EAt K H' a C [(fld, d), (gld, e)] → Q (.ref a) H'
section
variable {X : Cx} {C : Addr} {nm x y fld gld : Str} {e e2 : Expr} {es : List Expr} {kws : List Keyword} {ta : TA} {p pos : Pos}
theorem pe_efK {te : TE} {n : Str} (K : PySem.W.Frag) (he : PE X e te) (hK : X.K = K := by rfl) (hb : attributeBase e n X.env (eval e X.env) = eval e X.env := by rfl) : PE X (.Attribute e n pos) (tEf K n te) := by
  subst hK
  exact pe_ef he hb
theorem pe_mk1 (M : Mk1 X.prog X.w X.K X.mg X.base nm C x fld) (hr : Room 6 X.A) (hg : Gl X nm) (ha : PA X [e] ta) (hdb : (nm == ("__debug__" : Str)) = false := by decide) (he : starEach [e] X.env = (false, eval e X.env) :: starEach [] X.env := by rfl) :
    PE X (.Call (.Name nm p) [e] [] pos) (tMk1 X.K C fld ta) := by
  obtain ⟨fI, dI, E, F, b, _⟩ := M.has
  refine pe_conv (pe_oex E.ox E.ini E.ti F hr b .nil pass0 hg E.gl (pa_up ha) hdb he) fun σ H Q h => ⟨_, h, ?_⟩
  rintro vs H1 ⟨v, d, G, rfl, cp, s, nf, hv, k⟩
  exact ⟨(show 1 ≤ 1000 by decide), fun a ha => e1_go cp s nf hv ha (k a · ha)⟩
theorem pe_mkK1 (M : Mk1 X.prog X.w X.K X.mg X.base nm C x fld) (hr : Room 6 X.A) (hg : Gl X nm) (hkw : PK X kws ta) (hall : (backToKw pos (keywordEach kws X.env)).all (·.1.isSome) = true := by rfl) (hks : (backToKw pos (keywordEach kws X.env)).filterMap (·.1) = [x] := by rfl)
    (hdb : (nm == ("__debug__" : Str)) = false := by decide) (hpl : ((backTo pos (starEach [] X.env)).any (·.1) || (backToKw pos (keywordEach kws X.env)).any (·.1.isNone)) = false := by rfl) : PE X (.Call (.Name nm p) [] kws pos) (tMk1 X.K C fld ta) := by
  obtain ⟨fI, dI, E, F, _, b⟩ := M.has
  refine pe_conv (pe_oexK0 E.ox E.ini E.ti F hr b pass0 hg E.gl (pk_up hkw) hall hks hdb hpl) fun σ H Q h => ⟨_, h, ?_⟩
  rintro vs H1 ⟨v, d, G, rfl, cp, s, nf, hv, k⟩
  exact fun a ha => e1_go cp s nf hv ha (k a · ha)
theorem pe_mk2 (hfg : gld ≠ fld) (M : Mk2 X.prog X.w X.K X.mg X.base nm C x y fld gld) (hr : Room 6 X.A) (hg : Gl X nm) (ha : PA X [e, e2] ta) (hdb : (nm == ("__debug__" : Str)) = false := by decide) (he : starEach [e, e2] X.env = (false, eval e X.env) :: starEach [e2] X.env := by rfl) (hpl : (backTo pos (starEach [e2] X.env)).any (·.1) = false := by rfl) :
    PE X (.Call (.Name nm p) [e, e2] [] pos) (tMk2 X.K C fld gld ta) := by
  obtain ⟨fI, dI, E, F, b, _⟩ := M.has
  refine pe_conv (pe_oex E.ox E.ini E.ti F hr b .nil pass0 hg E.gl (pa_up ha) hdb he hpl) fun σ H Q h => ⟨_, h, ?_⟩
  rintro vs H1 ⟨v, u, d, e, G, rfl, cp, cp2, s, nf, hv, hu, k⟩
  exact ⟨(show 2 ≤ 1000 by decide), fun a ha => e2_go hfg cp cp2 s nf hv hu ha (k a · ha)⟩
theorem pe_mkK2 (hfg : gld ≠ fld) (M : Mk2 X.prog X.w X.K X.mg X.base nm C x y fld gld) (hr : Room 6 X.A) (hg : Gl X nm) (hkw : PK X kws ta) (hall : (backToKw pos (keywordEach kws X.env)).all (·.1.isSome) = true := by rfl) (hks : (backToKw pos (keywordEach kws X.env)).filterMap (·.1) = [y, x] := by rfl)
    (hdb : (nm == ("__debug__" : Str)) = false := by decide) (hpl : ((backTo pos (starEach [] X.env)).any (·.1) || (backToKw pos (keywordEach kws X.env)).any (·.1.isNone)) = false := by rfl) : PE X (.Call (.Name nm p) [] kws pos) (tMkK2 X.K C fld gld ta) := by
  obtain ⟨fI, dI, E, F, _, b⟩ := M.has
  refine pe_conv (pe_oexK0 E.ox E.ini E.ti F hr b pass0 hg E.gl (pk_up hkw) hall hks hdb hpl) fun σ H Q h => ⟨_, h, ?_⟩
  rintro vs H1 ⟨v, u, d, e, G, rfl, cp, cp2, s, nf, hv, hu, k⟩
  exact fun a ha => e2_go hfg cp cp2 s nf hv hu ha (k a · ha)
end
end K36
end

section
set_option Elab.async false
set_option linter.all false
set_option maxRecDepth 100000
set_option maxHeartbeats 4000000
/-! keywords to parameters -/
namespace K36
open PySem PySem.Spec PyProof.Rows L2 KZ
theorem vals_take1 {vs : List V} {us : List Value} (h : Vals vs us) : Vals (vs.take 1) (us.take 1) := by
  cases h with
  | nil => exact .nil
  | cons a b => exact .cons a .nil
theorem vals_rev2 {vs : List V} {us : List Value} (h : Vals vs us) : Vals (vs.take 2).reverse (us.take 2).reverse := by
  cases h with
  | nil => exact .nil
  | cons a h =>
    cases h with
    | nil => exact .cons a .nil
    | cons b h => exact .cons b (.cons a .nil)
theorem vals_rev3 {vs : List V} {us : List Value} (h : Vals vs us) : Vals (vs.take 3).reverse (us.take 3).reverse := by
  cases h with
  | nil => exact .nil
  | cons a h =>
    cases h with
    | nil => exact .cons a .nil
    | cons b h =>
      cases h with
      | nil => exact .cons b (.cons a .nil)
      | cons c h => exact .cons c (.cons b (.cons a .nil))
section
variable {K : PySem.W.Frag} {x qual p q r : Str} {st : Stmt} {f : Addr} {fd : FuncData}
abbrev FN (x qual : Str) (st : Stmt) (kV doc pm : Value) (an : Option Addr) (cdv ct : Value) : FuncData := PySem.W.fnOf x qual (defArgs st) (defBody st) (defScope st) .none kV doc pm an cdv ct
theorem kb_one (F : Fun K x qual st f fd) (h0 : ∀ (kV doc pm : Value) (an : Option Addr) (cdv ct v : Value), bindArgs (FN x qual st kV doc pm an cdv ct) ⟨[], [(p, v)]⟩ = pure [(p, v)])
    (h1 : ∀ (kV doc pm : Value) (an : Option Addr) (cdv ct v : Value), bindArgs (FN x qual st kV doc pm an cdv ct) ⟨[v], []⟩ = pure [(p, v)]) : KBinds K fd [p] [p] (fun us ws => us ++ ws.take 1) fun vs zs => vs ++ zs.take 1 := by
  obtain ⟨oc, od, kV, doc, pm, an, cdv, ct, osl, rfl, _⟩ := F.ex
  refine ⟨fun s us ws _ hl => ?_, fun a b => a.append (vals_take1 b)⟩
  match us, ws, hl with
  | [], v :: _, _ => exact .of_eq (h0 kV doc pm an cdv ct v)
  | [v], [], _ => exact .of_eq (h1 kV doc pm an cdv ct v)
theorem kb_self (F : Fun K x qual st f fd) (h0 : ∀ (kV doc pm : Value) (an : Option Addr) (cdv ct s v : Value), bindArgs (FN x qual st kV doc pm an cdv ct) ⟨[s], [(q, v)]⟩ = pure [(p, s), (q, v)])
    (h1 : ∀ (kV doc pm : Value) (an : Option Addr) (cdv ct s v : Value), bindArgs (FN x qual st kV doc pm an cdv ct) ⟨[s, v], []⟩ = pure [(p, s), (q, v)]) : KBinds K fd [p, q] [q] (fun us ws => us ++ ws.take 1) fun vs zs => vs ++ zs.take 1 := by
  obtain ⟨oc, od, kV, doc, pm, an, cdv, ct, osl, rfl, _⟩ := F.ex
  refine ⟨fun s us ws _ hl => ?_, fun a b => a.append (vals_take1 b)⟩
  match us, ws, hl with
  | [a], v :: _, _ => exact .of_eq (h0 kV doc pm an cdv ct a v)
  | [a, v], [], _ => exact .of_eq (h1 kV doc pm an cdv ct a v)
  | [], ws, hl => exact absurd hl (by simp only [List.length_append, List.length_take, List.length_reverse, List.length_cons, List.length_nil]; omega)
  | [a], [], hl => exact absurd hl (by simp only [List.length_append, List.length_take, List.length_reverse, List.length_cons, List.length_nil]; omega)
  | [a, v], _ :: _, hl => exact absurd hl (by simp only [List.length_append, List.length_take, List.length_reverse, List.length_cons, List.length_nil]; omega)
  | _ :: _ :: _ :: _, ws, hl => exact absurd hl (by simp only [List.length_append, List.length_take, List.length_reverse, List.length_cons, List.length_nil]; omega)
theorem kb_self2 (F : Fun K x qual st f fd) (h0 : ∀ (kV doc pm : Value) (an : Option Addr) (cdv ct s v u : Value), bindArgs (FN x qual st kV doc pm an cdv ct) ⟨[s], [(r, u), (q, v)]⟩ = pure [(p, s), (q, v), (r, u)])
    (h1 : ∀ (kV doc pm : Value) (an : Option Addr) (cdv ct s v u : Value), bindArgs (FN x qual st kV doc pm an cdv ct) ⟨[s, v], [(r, u)]⟩ = pure [(p, s), (q, v), (r, u)])
    (h2 : ∀ (kV doc pm : Value) (an : Option Addr) (cdv ct s v u : Value), bindArgs (FN x qual st kV doc pm an cdv ct) ⟨[s, v, u], []⟩ = pure [(p, s), (q, v), (r, u)]) : KBinds K fd [p, q, r] [r, q] (fun us ws => us ++ (ws.take 2).reverse) fun vs zs => vs ++ (zs.take 2).reverse := by
  obtain ⟨oc, od, kV, doc, pm, an, cdv, ct, osl, rfl, _⟩ := F.ex
  refine ⟨fun s us ws _ hl => ?_, fun a b => a.append (vals_rev2 b)⟩
  match us, ws, hl with
  | [a], u :: v :: _, _ => exact .of_eq (h0 kV doc pm an cdv ct a v u)
  | [a, v], [u], _ => exact .of_eq (h1 kV doc pm an cdv ct a v u)
  | [a, v, u], [], _ => exact .of_eq (h2 kV doc pm an cdv ct a v u)
  | [], ws, hl => exact absurd hl (by simp only [List.length_append, List.length_take, List.length_reverse, List.length_cons, List.length_nil]; omega)
  | [a], [], hl => exact absurd hl (by simp only [List.length_append, List.length_take, List.length_reverse, List.length_cons, List.length_nil]; omega)
  | [a], [_], hl => exact absurd hl (by simp only [List.length_append, List.length_take, List.length_reverse, List.length_cons, List.length_nil]; omega)
  | [a, v], [], hl => exact absurd hl (by simp only [List.length_append, List.length_take, List.length_reverse, List.length_cons, List.length_nil]; omega)
  | [a, v], _ :: _ :: _, hl => exact absurd hl (by simp only [List.length_append, List.length_take, List.length_reverse, List.length_cons, List.length_nil]; omega)
  | [a, v, u], _ :: _, hl => exact absurd hl (by simp only [List.length_append, List.length_take, List.length_reverse, List.length_cons, List.length_nil]; omega)
  | _ :: _ :: _ :: _ :: _, ws, hl => exact absurd hl (by simp only [List.length_append, List.length_take, List.length_reverse, List.length_cons, List.length_nil]; omega)
theorem kb_three (F : Fun K x qual st f fd) (h0 : ∀ (kV doc pm : Value) (an : Option Addr) (cdv ct s v u : Value), bindArgs (FN x qual st kV doc pm an cdv ct) ⟨[], [(r, u), (q, v), (p, s)]⟩ = pure [(p, s), (q, v), (r, u)])
    (h1 : ∀ (kV doc pm : Value) (an : Option Addr) (cdv ct s v u : Value), bindArgs (FN x qual st kV doc pm an cdv ct) ⟨[s], [(r, u), (q, v)]⟩ = pure [(p, s), (q, v), (r, u)])
    (h2 : ∀ (kV doc pm : Value) (an : Option Addr) (cdv ct s v u : Value), bindArgs (FN x qual st kV doc pm an cdv ct) ⟨[s, v], [(r, u)]⟩ = pure [(p, s), (q, v), (r, u)])
    (h3 : ∀ (kV doc pm : Value) (an : Option Addr) (cdv ct s v u : Value), bindArgs (FN x qual st kV doc pm an cdv ct) ⟨[s, v, u], []⟩ = pure [(p, s), (q, v), (r, u)]) : KBinds K fd [p, q, r] [r, q, p] (fun us ws => us ++ (ws.take 3).reverse) fun vs zs => vs ++ (zs.take 3).reverse := by
  obtain ⟨oc, od, kV, doc, pm, an, cdv, ct, osl, rfl, _⟩ := F.ex
  refine ⟨fun s us ws _ hl => ?_, fun a b => a.append (vals_rev3 b)⟩
  match us, ws, hl with
  | [], u :: v :: a :: _, _ => exact .of_eq (h0 kV doc pm an cdv ct a v u)
  | [a], [u, v], _ => exact .of_eq (h1 kV doc pm an cdv ct a v u)
  | [a, v], [u], _ => exact .of_eq (h2 kV doc pm an cdv ct a v u)
  | [a, v, u], [], _ => exact .of_eq (h3 kV doc pm an cdv ct a v u)
  | [], [], hl => exact absurd hl (by simp only [List.length_append, List.length_take, List.length_reverse, List.length_cons, List.length_nil]; omega)
  | [], [_], hl => exact absurd hl (by simp only [List.length_append, List.length_take, List.length_reverse, List.length_cons, List.length_nil]; omega)
  | [], [_, _], hl => exact absurd hl (by simp only [List.length_append, List.length_take, List.length_reverse, List.length_cons, List.length_nil]; omega)
  | [a], [], hl => exact absurd hl (by simp only [List.length_append, List.length_take, List.length_reverse, List.length_cons, List.length_nil]; omega)
  | [a], [_], hl => exact absurd hl (by simp only [List.length_append, List.length_take, List.length_reverse, List.length_cons, List.length_nil]; omega)
  | [a], _ :: _ :: _ :: _, hl => exact absurd hl (by simp only [List.length_append, List.length_take, List.length_reverse, List.length_cons, List.length_nil]; omega)
  | [a, v], [], hl => exact absurd hl (by simp only [List.length_append, List.length_take, List.length_reverse, List.length_cons, List.length_nil]; omega)
  | [a, v], _ :: _ :: _, hl => exact absurd hl (by simp only [List.length_append, List.length_take, List.length_reverse, List.length_cons, List.length_nil]; omega)
  | [a, v, u], _ :: _, hl => exact absurd hl (by simp only [List.length_append, List.length_take, List.length_reverse, List.length_cons, List.length_nil]; omega)
  | _ :: _ :: _ :: _ :: _, ws, hl => exact absurd hl (by simp only [List.length_append, List.length_take, List.length_reverse, List.length_cons, List.length_nil]; omega)
end
end K36
end

section
set_option Elab.async false
set_option linter.all false
set_option maxRecDepth 100000
set_option maxHeartbeats 4000000
/-! what an ask is made of -/
namespace K36
open PySem L2 KZ
abbrev sCount : Stmt := top 16
abbrev sCheckAsk : Stmt := top 15
/-- x not in (a, b, ..), of data -/
def rNotInT (K : PySem.W.Frag) : R2 := fun x y H Q => ∃ d ts, Dp K H x d ∧ Dp K H y (.tuple ts) ∧ SeqAt.shaped d = true ∧ SeqAt.shaped (.tuple ts) = true ∧ Q (.bl (!ts.any fun z => PyData.eqv z d)) H
theorem op_notInT {X : Cx} (room : X.A.units + 65 < cLine) : OpR X (compareOp .NotIn) (rNotInT X.K) := by
  intro pins s σ H x y v u Q I rx ry h
  obtain ⟨d, ts, gx, gy, sx, sy, q⟩ := h
  have ⟨_, r1⟩ := Dp.reads I d x v gx rx
  have ⟨_, r2⟩ := Dp.reads I (.tuple ts) y u gy ry
  exact SeqAt.notIn_tuple_reads r2 r1 (SeqAt.canLay_of_shaped sy) (SeqAt.canLay_of_shaped sx) (PyProof.Rows.room_in_shaped sx room) ⟨.bl _, H, I, rfl, q⟩
theorem room65 {k : Nat} {A : Around} (r : Room (k + 1) A) : A.units + 65 < cLine := by have := r.un; omega
/-- no dict in it -/
def nod : PyData → Bool
  | .list ds => nods ds
  | .tuple ds => nods ds
  | .dict _ => false
  | _ => true
where nods : List PyData → Bool
  | [] => true
  | d :: r => nod d && nods r
theorem Dv.dp {K : PySem.W.Frag} {H : Hp} {v : V} {d : PyData} (h : Dv K H v d) : nod d = true → Dp K H v d := by
  refine Dv.rec (motive_1 := fun v d _ => nod d = true → Dp K H v d) (motive_2 := fun vs ds _ => nod.nods ds = true → DpAll K H vs ds) (motive_3 := fun _ _ _ => True) (fun _ => .non) (fun b _ => .bl b) (fun i _ => .int i) (fun x _ => .str x) ?_ ?_ ?_ (fun _ => .nil) ?_ trivial (fun _ _ _ _ => trivial) h
  · intro a xs ds h1 _ ih z
    exact .lst h1 (ih z)
  · intro a xs ds h1 _ ih z
    exact .tup h1 (ih z)
  · intro a kvs ps _ _ _ z
    cases z
  · intro v vs d ds _ _ i j z
    have ⟨z1, z2⟩ := Bool.and_eq_true_iff.mp (show (nod d && nod.nods ds) = true from z)
    exact .cons (i z1) (j z2)
def isCount : PyData → Bool
  | .int i => decide (0 ≤ i)
  | _ => false
def wordOk (w : PyData) : Bool := ([.str "put", .str "get"] : List PyData).any fun z => PyData.eqv z w
def isPut : PyData → Bool
  | .str x => decide (x = "put")
  | _ => false
def endOk (b e : PyData) : Bool := match e, b with
  | .none, _ => true
  | .int j, .int i => decide (i < j)
  | _, _ => false
def toldOk (w e t : PyData) : Bool := match t, e with
  | .none, _ => true
  | _, .none => false
  | t, _ => !isPut w && isCount t
/-- the first part that is wrong -/
def bad (c w b e t : PyData) : Option Str :=
  if isName c = true then if wordOk w = true then if isCount b = true then if endOk b e = true then if toldOk w e t = true then none else some "told" else some "ended" else some "begun" else some "word" else some "client"
def spCount (K : PySem.W.Frag) : Sp := fun vs H Q _ => ∃ v d, vs = [v] ∧ Dv K H v d ∧ Q (.bl (isCount d)) H
/-- an error of the class c is let out, its dict holds fs -/
def OutF (c : Addr) (fs : List (Str × V)) (H : Hp) (E : XK) : Prop := ∀ d H', Same H H' → H' d = some (.xd fs) → E (.ref c) (some d) H'
theorem OutF.at {c : Addr} {fs : List (Str × V)} {H H' : Hp} {E : XK} (q : OutF c fs H E) (s : Same H H') : OutF c fs H' E := fun d H2 s2 => q d H2 (s.trans s2)
def spCheck (K : PySem.W.Frag) (cB : Addr) : Sp := fun vs H Q E => ∃ vc dc vw dw vb db ve de vt dt, vs = [vc, vw, vb, ve, vt] ∧ Dv K H vc dc ∧ (∀ x, dc = .str x → x.length ≤ 1000) ∧ Dv K H vw dw ∧ nod dw = true ∧ SeqAt.shaped dw = true ∧ Dv K H vb db ∧ Dv K H ve de ∧ Dv K H vt dt ∧
  (bad dc dw db de dt = none → ∀ H', Same H H' → Q .non H') ∧ ∀ p, bad dc dw db de dt = some p → OutF cB [("part", .str p)] H E
section
variable {P : Program} {w : World} {K : PySem.W.Frag} {mg : Str → Option Value} {base : Heap} {fI fN fC cB : Addr} {dI dN dC : FuncData}
theorem scCount : FnScope ["value"] ["value"] (defScope sCount) := ⟨rfl, rfl, rfl, by decide +kernel, rfl, by decide +kernel, by decide +kernel⟩
theorem ok_count {f : Addr} {fd : FuncData} (F : Fun K "is_count" "is_count" sCount f fd) (T : B0 mg) (gI : mg "is_integer" = some (.ref fI)) (FI : Fun K "is_integer" "is_integer" sIsInt fI dI) (bI : Binds K dI ["value"] []) : FnOk P w K mg base CX0 2 f fd ["value"] (spCount K) := by
  have GI : FnOk P w K mg base CX0 1 fI dI ["value"] (spIsInt K) := ok_is_integer FI T
  refine F.ok scCount (fun vs H Q E h => ?_) (fun cdv A outer s H vs Q E hr h => ?_)
  · obtain ⟨v, d, rfl, _⟩ := h
    rfl
  · obtain ⟨v, d, rfl, hd, q⟩ := h
    have hr1 : Room 1 _ := hr.mono (by decide)
    refine ⟨_, (pss_one (ps_ret (pe_and (pe_call GI hr1 (by rfl) gI FI.kp bI .nil pass0 (pa_cons (pv 0) pa_nil)) (pe_one (pe_cmpR op_ge (pv 0) pe_int (nomark _)))))), ?_⟩
    refine ⟨v, rfl, v, d, rfl, hd, _, rfl, ?_⟩
    cases d with
    | int i =>
      cases hd
      exact iteT ⟨_, rfl, i, 0, rfl, rfl, q⟩
    | _ => exact iteF q
theorem scCheck : FnScope ["client", "word", "begun", "ended", "told"] ["client", "word", "begun", "ended", "told"] (defScope sCheckAsk) := ⟨rfl, rfl, rfl, by decide +kernel, rfl, by decide +kernel, by decide +kernel⟩
theorem raise_str {σ : L2.St} {H : Hp} {E : XK} {p : Str} (q : OutF cB [("part", .str p)] H E) : tMkO cB (spE1 K cB "part") [] (tCons (tC (.str p)) tNil) σ H fun cls d H' => E cls d H' := by
  refine ⟨(show 1 ≤ 1000 by decide), fun a ha => ⟨a, .str p, .str p, fun _ => none, rfl, trivial, (fun _ _ z => nomatch z), (fun _ _ _ z => nomatch z), rfl, .str _, upd_same, ?_⟩⟩
  intro v' G' dx H' s1 nf' bs ga gd hdx ne s' kp ea ed dv'
  cases dv'
  refine ⟨rfl, dx, _, ea, ed, by rw [upd_ne ne] at hdx; exact hdx, q dx _ (fun b o e => ?_) upd_same⟩
  have hb : b ≠ a := ne_of_none e ha
  rw [upd_ne ne] at hdx
  rw [upd_ne (ne_of_none e hdx), del_ne hb]
  exact kp _ _ hb (by rw [upd_ne hb]; exact e)
theorem put_word {H : Hp} {w : V} {dw : PyData} (g : Dv K H w dw) (ok : wordOk dw = true) : ∃ x, w = .str x ∧ dw = .str x := by
  cases g with
  | str x => exact ⟨x, rfl, rfl⟩
  | _ => exact absurd ok (by simp [wordOk, PyData.eqv])
theorem iteT' {A B : Prop} (h : A) : (if true = true then A else B) := by rw [if_pos rfl]; exact h
theorem iteF' {A B : Prop} (h : B) : (if false = true then A else B) := by rw [if_neg (by decide)]; exact h
theorem told_go {H : Hp} {Q : VK} {E : XK} {vc ve vt : V} {x : Str} {b : V} {de dt : PyData} (ge : Dv K H ve de) (gt : Dv K H vt dt) (q1 : toldOk (.str x) de dt = true → Q .non H) (q2 : toldOk (.str x) de dt = false → OutF cB [("part", .str "told")] H E) :
    tIfS (tAnd (tTest (tOp (fun x y H Q => y = V.non ∧ Q (V.bl !decide (x = V.non)) H) (tVar 4) (tC V.non))) (tOr (tTest (tOp rEq (tVar 1) (tC (V.str "put"))))
      (tOr (tTest (tOp (fun x y H Q => y = V.non ∧ Q (V.bl (decide (x = V.non))) H) (tVar 3) (tC V.non))) (tNot (tB (tCall (spCount K) [] E0 (tCons (tVar 4) tNil)))))))
      (fun _ σ H => tMkO cB (spE1 K cB "part") [] (tCons (tC (V.str "told")) tNil) σ H fun cls d H' => E cls d H') tNext { nx := fun _ H' => Q V.non H', rt := Q } (L2.start ["client", "word", "begun", "ended", "told"] [vc, .str x, b, ve, vt]) H := by
  have nn : ∀ {d : PyData} {v : V}, Dv K H v d → d ≠ .none → decide (v = V.non) = false := by
    intro d v h hn
    cases h <;> first | exact absurd rfl hn | exact decide_eq_false fun z => nomatch z
  by_cases tn : dt = .none
  · subst tn
    cases gt
    exact ⟨.non, rfl, rfl, false, rfl, iteF (iteF (q1 (by cases de <;> rfl)))⟩
  · refine ⟨vt, rfl, rfl, true, by rw [nn gt tn]; rfl, ?_⟩
    have tk : toldOk (.str x) de dt = (match de with
      | .none => false
      | _ => !isPut (.str x) && isCount dt) := by
      cases dt <;> first | exact absurd rfl tn | (cases de <;> rfl)
    by_cases px : x = "put"
    · subst px
      rw [show toldOk (.str "put") de dt = false by rw [tk]; cases de <;> rfl] at q2
      exact iteT' ⟨.str "put", rfl, rfl, true, rfl, iteT' (iteT' (raise_str (q2 rfl)))⟩
    · have e1 : V.bl (decide (V.str x = V.str "put")) = V.bl false := congrArg V.bl (decide_eq_false fun z => px (V.str.inj z))
      have ip : isPut (.str x) = false := decide_eq_false px
      refine iteT' ⟨.str x, rfl, rfl, false, e1, iteF' ?_⟩
      by_cases en : de = .none
      · subst en
        cases ge
        exact ⟨.non, rfl, rfl, true, rfl, iteT' (iteT' (raise_str (q2 (by rw [tk]))))⟩
      · refine ⟨ve, rfl, rfl, false, by rw [nn ge en], iteF' ⟨vt, rfl, vt, dt, rfl, gt, isCount dt, rfl, ?_⟩⟩
        have tk2 : toldOk (.str x) de dt = isCount dt := by
          rw [tk, ip]
          cases de <;> first | exact absurd rfl en | rfl
        cases c : isCount dt with
        | true => exact iteF' (q1 (tk2.trans c))
        | false => exact iteT' (raise_str (q2 (tk2.trans c)))
theorem ok_check_ask {f : Addr} {fd : FuncData} (F : Fun K "check_ask" "check_ask" sCheckAsk f fd) (T : B0 mg) (C : C0 mg fI) (gN : mg "is_name" = some (.ref fN)) (gC : mg "is_count" = some (.ref fC))
    (FI : Fun K "is_integer" "is_integer" sIsInt fI dI) (bI : Binds K dI ["value"] []) (FN : Fun K "is_name" "is_name" sIsName fN dN) (bN : Binds K dN ["value"] []) (FC : Fun K "is_count" "is_count" sCount fC dC) (bC : Binds K dC ["value"] [])
    (M : Mk1 P w K mg base "BadAsk" cB "part" "part") : FnOk P w K mg base (L2.CX P w) 7 f fd ["client", "word", "begun", "ended", "told"] (spCheck K cB) := by
  have GI : FnOk P w K mg base CX0 1 fI dI ["value"] (spIsInt K) := ok_is_integer FI T
  have GN : FnOk P w K mg base CX0 1 fN dN ["value"] (spName K) := ok_is_name FN T C
  have GC : FnOk P w K mg base CX0 2 fC dC ["value"] (spCount K) := ok_count FC T C.gI FI bI
  have gI := C.gI
  obtain ⟨fR, dR, ER, FR, bR, _⟩ := M.has
  refine F.okX scCheck (fun vs H Q E h => ?_) (fun cdv A outer s H vs Q E hr h => ?_)
  · obtain ⟨vc, dc, vw, dw, vb, db, ve, de, vt, dt, rfl, _⟩ := h
    rfl
  · obtain ⟨vc, dc, vw, dw, vb, db, ve, de, vt, dt, rfl, gc, sz, gw, nw, sw, gb, ge, gt, q1, q2⟩ := h
    have hr1 : Room 1 _ := hr.mono (by decide)
    have hr2 : Room 2 _ := hr.mono (by decide)
    refine ⟨_, (pss_cons (ps_if (pt_not (pt_val (pe_call GN hr1 (by rfl) gN FN.kp bN .nil pass0 (pa_cons (pv 0) pa_nil))))
(pss_one (ps_raise rfl (takes_of rfl rfl rfl rfl) (pmk_oex ER.ox ER.ini ER.ti FR hr bR .nil pass0 (by rfl) ER.gl (pa_cons pe_str pa_nil))))
pss_nil)
(pss_cons (ps_if (pt_cmpR (op_notInT (room65 hr)) (pv 1) (pe_tup (pa_cons pe_str (pa_cons pe_str pa_nil))) (by rfl))
(pss_one (ps_raise rfl (takes_of rfl rfl rfl rfl) (pmk_oex ER.ox ER.ini ER.ti FR hr bR .nil pass0 (by rfl) ER.gl (pa_cons pe_str pa_nil))))
pss_nil)
(pss_cons (ps_if (pt_not (pt_val (pe_call GC hr2 (by rfl) gC FC.kp bC .nil pass0 (pa_cons (pv 2) pa_nil))))
(pss_one (ps_raise rfl (takes_of rfl rfl rfl rfl) (pmk_oex ER.ox ER.ini ER.ti FR hr bR .nil pass0 (by rfl) ER.gl (pa_cons pe_str pa_nil))))
pss_nil)
(pss_cons (ps_if (PW.pt (pw_and (pt_cmpR op_notN (pv 3) pe_non (nomark _)) (pw_and1 (pt_not (PW.pt (pw_and (pt_val (pe_call GI hr1 (by rfl) gI FI.kp bI .nil pass0 (pa_cons (pv 3) pa_nil))) (pw_and1 (pt_cmpR op_gt (pv 3) (pv 2) (nomark _)))))))))
(pss_one (ps_raise rfl (takes_of rfl rfl rfl rfl) (pmk_oex ER.ox ER.ini ER.ti FR hr bR .nil pass0 (by rfl) ER.gl (pa_cons pe_str pa_nil))))
pss_nil)
(pss_one (ps_if (PW.pt (pw_and (pt_cmpR op_notN (pv 4) pe_non (nomark _)) (pw_and1 (PW.pt (pw_or (pt_cmpR op_eq (pv 1) pe_str (nomark _)) (pw_or (pt_cmpR op_isN (pv 3) pe_non (nomark _)) (pw_or1 (pt_not (pt_val (pe_call GC hr2 (by rfl) gC FC.kp bC .nil pass0 (pa_cons (pv 4) pa_nil)))))))))))
(pss_one (ps_raise rfl (takes_of rfl rfl rfl rfl) (pmk_oex ER.ox ER.ini ER.ti FR hr bR .nil pass0 (by rfl) ER.gl (pa_cons pe_str pa_nil))))
pss_nil)))))), ?_⟩
    refine ⟨vc, rfl, vc, dc, rfl, gc, sz, fun H1 s1 => ⟨isName dc, rfl, ?_⟩⟩
    cases c1 : isName dc with
    | false => exact iteT (raise_str ((q2 "client" (by unfold bad; rw [c1]; rfl)).at s1))
    | true =>
    refine iteF ?_
    refine ⟨vw, rfl, (by show 2 ≤ sizeLine; decide), fun t ht => ?_⟩
    have s2 := s1.trans (same_new (o := .tup [V.str "put", V.str "get"]) ht)
    have gw2 := Dv.mono s2 gw
    have gb2 := Dv.mono s2 gb
    have ge2 := Dv.mono s2 ge
    have gt2 := Dv.mono s2 gt
    refine ⟨dw, [.str "put", .str "get"], Dv.dp gw2 nw, .tup (SqT.of upd_same) (.cons (.str _) (.cons (.str _) .nil)), sw, by decide +kernel, !wordOk dw, rfl, ?_⟩
    generalize upd H1 t _ = H2 at s2 gw2 gb2 ge2 gt2 ⊢
    cases c2 : wordOk dw with
    | false => exact iteT (raise_str ((q2 "word" (by unfold bad; rw [c1, c2]; rfl)).at s2))
    | true =>
    refine iteF ?_
    refine ⟨vb, rfl, vb, db, rfl, gb2, isCount db, rfl, ?_⟩
    cases c3 : isCount db with
    | false => exact iteT (raise_str ((q2 "begun" (by unfold bad; rw [c1, c2, c3]; rfl)).at s2))
    | true =>
    refine iteF ?_
    obtain ⟨i, rfl⟩ : ∃ i, db = .int i := by
      cases db with
      | int i => exact ⟨i, rfl⟩
      | _ => cases c3
    cases gb2
    obtain ⟨x, rfl, rfl⟩ := put_word gw2 c2
    have fin : endOk (.int i) de = true → toldOk (.str x) de dt = true → bad dc (.str x) (.int i) de dt = none := fun z1 z2 => by unfold bad; rw [c1, c2, c3, z1, z2]; rfl
    have fin2 : endOk (.int i) de = true → toldOk (.str x) de dt = false → bad dc (.str x) (.int i) de dt = some "told" := fun z1 z2 => by unfold bad; rw [c1, c2, c3, z1, z2]; rfl
    have fin3 : endOk (.int i) de = false → bad dc (.str x) (.int i) de dt = some "ended" := fun z1 => by unfold bad; rw [c1, c2, c3, z1]; rfl
    have last : ∀ vb, endOk (.int i) de = true → _ := fun vb z1 => told_go (vc := vc) (b := vb) (H := H2) (Q := Q) (E := E) ge2 gt2 (fun z2 => q1 (fin z1 z2) H2 s2) (fun z2 => (q2 "told" (fin2 z1 z2)).at s2)
    by_cases en : de = .none
    · subst en
      cases ge2
      exact ⟨.non, rfl, rfl, false, rfl, iteF' (iteF' (last (.int i) rfl))⟩
    · have nn : decide (ve = V.non) = false := by
        cases ge2 <;> first | exact absurd rfl en | exact decide_eq_false fun z => nomatch z
      refine ⟨ve, rfl, rfl, true, by rw [nn]; rfl, iteT' ⟨ve, rfl, ve, de, rfl, ge2, isInt de, rfl, ?_⟩⟩
      cases de with
      | int j =>
        cases ge2
        refine iteT' ⟨.int j, rfl, .int i, rfl, j, i, rfl, rfl, decide (i < j), rfl, ?_⟩
        cases c4 : decide (i < j) with
        | true => exact iteF' (last (.int i) c4)
        | false => exact iteT' (raise_str ((q2 "ended" (fin3 c4)).at s2))
      | none => exact absurd rfl en
      | _ => exact iteF' (iteT' (raise_str ((q2 "ended" (fin3 rfl)).at s2)))
end
end K36
end

section
set_option Elab.async false
set_option linter.all false
set_option maxRecDepth 100000
set_option maxHeartbeats 4000000
/-! an ask -/
namespace K36
open PySem L2 KZ
abbrev sInit : Stmt := mem 13 0
abbrev sAhead : Stmt := mem 13 1
abbrev sEq : Stmt := mem 13 2
/-- what an ask is made of: client, whether it is a get, begin, end, what it tells -/
structure Row where
  c : Str
  g : Bool
  b : Int
  e : Option Int
  t : Option Int
  deriving DecidableEq
def wd : Bool → Str
  | true => "get"
  | false => "put"
def oV : Option Int → V
  | none => .non
  | some i => .int i
def oD : Option Int → PyData
  | none => .none
  | some i => .int i
theorem oV_dv {K : PySem.W.Frag} {H : Hp} (o : Option Int) : Dv K H (oV o) (oD o) := by
  cases o with
  | none => exact .non
  | some i => exact .int i
structure Row.Ok (r : Row) : Prop where
  n : isName (.str r.c) = true
  b0 : 0 ≤ r.b
  eb : ∀ e, r.e = some e → r.b < e
  tg : ∀ t, r.t = some t → r.g = true ∧ r.e ≠ none ∧ 0 ≤ t
def flds (r : Row) : List (Str × V) := [("client", .str r.c), ("word", .str (wd r.g)), ("begun", .int r.b), ("ended", oV r.e), ("told", oV r.t)]
/-- at a stands the ask of the row r -/
def AskAt (C : Addr) (H : Hp) (a : Addr) (r : Row) : Prop := ∃ dx, H a = some (.ins C dx (flds r))
theorem AskAt.mono {C : Addr} {H H' : Hp} {a : Addr} {r : Row} (s : Same H H') (h : AskAt C H a r) : AskAt C H' a r := h.imp fun _ z => s _ _ z
theorem bad_none {c w b e t : PyData} (h : bad c w b e t = none) : ∃ r : Row, r.Ok ∧ c = .str r.c ∧ w = .str (wd r.g) ∧ b = .int r.b ∧ e = oD r.e ∧ t = oD r.t := by
  unfold bad at h
  cases h1 : isName c with
  | false => rw [h1] at h; cases h
  | true =>
  cases h2 : wordOk w with
  | false => rw [h1, h2] at h; cases h
  | true =>
  cases h3 : isCount b with
  | false => rw [h1, h2, h3] at h; cases h
  | true =>
  cases h4 : endOk b e with
  | false => rw [h1, h2, h3, h4] at h; cases h
  | true =>
  cases h5 : toldOk w e t with
  | false => rw [h1, h2, h3, h4, h5] at h; cases h
  | true =>
  obtain ⟨x, rfl⟩ : ∃ x, c = .str x := by
    cases c with
    | str x => exact ⟨x, rfl⟩
    | _ => cases h1
  obtain ⟨g, rfl⟩ : ∃ g, w = .str (wd g) := by
    cases w with
    | str x =>
      have z : (decide (("put" : Str) = x) || (decide (("get" : Str) = x) || false)) = true := h2
      rcases Bool.or_eq_true_iff.mp z with z | z
      · exact ⟨false, by rw [← of_decide_eq_true z]; rfl⟩
      · rw [Bool.or_false] at z
        exact ⟨true, by rw [← of_decide_eq_true z]; rfl⟩
    | _ => cases h2
  obtain ⟨i, rfl⟩ : ∃ i, b = .int i := by
    cases b with
    | int i => exact ⟨i, rfl⟩
    | _ => cases h3
  obtain ⟨oe, rfl⟩ : ∃ o, e = oD o := by
    cases e with
    | none => exact ⟨none, rfl⟩
    | int j => exact ⟨some j, rfl⟩
    | _ => cases h4
  obtain ⟨ot, rfl⟩ : ∃ o, t = oD o := by
    cases t with
    | none => exact ⟨none, rfl⟩
    | int j => exact ⟨some j, rfl⟩
    | _ => cases oe <;> simp [toldOk, oD, isCount] at h5
  refine ⟨⟨x, g, i, oe, ot⟩, ⟨h1, of_decide_eq_true h3, ?_, ?_⟩, rfl, rfl, rfl, rfl, rfl⟩
  · rintro e rfl
    exact of_decide_eq_true h4
  · rintro t rfl
    cases oe with
    | none => cases h5
    | some e =>
      have ⟨z1, z2⟩ := Bool.and_eq_true_iff.mp (show (!isPut (.str (wd g)) && isCount (.int t)) = true from h5)
      refine ⟨?_, fun z => (nomatch z), of_decide_eq_true z2⟩
      cases g with
      | true => rfl
      | false => cases z1
theorem bad_of {r : Row} (k : r.Ok) : bad (.str r.c) (.str (wd r.g)) (.int r.b) (oD r.e) (oD r.t) = none := by
  obtain ⟨c, g, b, e, t⟩ := r
  have h2 : wordOk (.str (wd g)) = true := by cases g <;> decide +kernel
  have h3 : isCount (.int b) = true := decide_eq_true k.b0
  have h4 : endOk (.int b) (oD e) = true := by
    cases e with
    | none => rfl
    | some e => exact decide_eq_true (k.eb e rfl)
  have h5 : toldOk (.str (wd g)) (oD e) (oD t) = true := by
    cases t with
    | none => cases e <;> rfl
    | some t =>
      obtain ⟨z1, z2, z3⟩ := k.tg t rfl
      have z1 : g = true := z1
      subst z1
      cases e with
      | none => exact absurd rfl z2
      | some e =>
        show (!isPut (.str "get") && isCount (.int t)) = true
        rw [show isCount (.int t) = true from decide_eq_true z3]
        decide +kernel
  have h1 : isName (.str c) = true := k.n
  unfold bad
  rw [h1, h2, h3, h4, h5]
  rfl
/-- the class Ask, as the top has left it -/
structure AskC (K : PySem.W.Frag) (mg : Str → Option Value) (C : Addr) : Prop where
  mg : mg "Ask" = some (.ref C)
  cl : Cls K C
  nc : NoAttr K C "client"
  nw : NoAttr K C "word"
  nb : NoAttr K C "begun"
  ne : NoAttr K C "ended"
  nt : NoAttr K C "told"
  ty : ∀ (H : Hp) (a dx : Addr) (fs : List (Str × V)), H a = some (.ins C dx fs) → TyOf K H (.ref a) (.ref C)
  me : PySem.W.kitOne K (.ref C) (.ref C) = some true
  no : ∀ T ∈ ["NoneType", "bool", "int", "str", "list", "tuple", "dict"], PySem.W.kitOne K (.type T) (.ref C) = some false
def spInit (K : PySem.W.Frag) (C cB : Addr) : Sp := fun vs H Q E => ∃ a dx vc dc vw dw vb db ve de vt dt, vs = [.ref a, vc, vw, vb, ve, vt] ∧ H a = some (.ins C dx []) ∧ Dv K H vc dc ∧ (∀ x, dc = .str x → x.length ≤ 1000) ∧ Dv K H vw dw ∧ nod dw = true ∧ SeqAt.shaped dw = true ∧ Dv K H vb db ∧ Dv K H ve de ∧ Dv K H vt dt ∧
  (∀ r : Row, r.Ok → dc = .str r.c → dw = .str (wd r.g) → db = .int r.b → de = oD r.e → dt = oD r.t → ∀ H', (∀ b o, b ≠ a → H b = some o → H' b = some o) → AskAt C H' a r → Q .non H') ∧ ∀ p, bad dc dw db de dt = some p → OutF cB [("part", .str p)] H E
/-- one ask ahead of another one -/
def ahead (r s : Row) : Bool := match r.e with
  | none => false
  | some e => decide (e < s.b)
/-- what is no ask -/
def NoAsk (K : PySem.W.Frag) (H : Hp) (C : Addr) (v : V) : Prop := ∃ t, TyX K H v t ∧ PySem.W.kitOne K t (.ref C) = some false
def spAhead (K : PySem.W.Frag) (C cB : Addr) : Sp := fun vs H Q E => ∃ a r y, vs = [.ref a, y] ∧ AskAt C H a r ∧ ((∃ b s, y = .ref b ∧ AskAt C H b s ∧ Q (.bl (ahead r s)) H) ∨ (NoAsk K H C y ∧ OutF cB [("part", .str "other")] H E))
def spEqA (K : PySem.W.Frag) (C : Addr) : Sp := fun vs H Q _ => ∃ a r y, vs = [.ref a, y] ∧ AskAt C H a r ∧ ((∃ b s, y = .ref b ∧ AskAt C H b s ∧ Q (.bl (decide (r = s))) H) ∨ (NoAsk K H C y ∧ Q (.bl false) H))
section
variable {P : Program} {w : World} {K : PySem.W.Frag} {mg : Str → Option Value} {base : Heap} {fK cB C : Addr} {dK : FuncData}
theorem scInit : FnScope ["self", "client", "word", "begun", "ended", "told"] ["self", "client", "word", "begun", "ended", "told"] (defScope sInit) := ⟨rfl, rfl, rfl, by decide +kernel, rfl, by decide +kernel, by decide +kernel⟩
theorem ok_init {f : Addr} {fd : FuncData} {q : Str} (F : FunD K "__init__" q (defArgs sInit) (defBody sInit) (defScope sInit) [.non, .non] [] f fd) (A : AskC K mg C) (gK : mg "check_ask" = some (.ref fK))
    (GK : FnOk P w K mg base (L2.CX P w) 7 fK dK ["client", "word", "begun", "ended", "told"] (spCheck K cB)) (FK : Fun K "check_ask" "check_ask" sCheckAsk fK dK) (bK : Binds K dK ["client", "word", "begun", "ended", "told"] []) :
    FnOk P w K mg base (L2.CX P w) 8 f fd ["self", "client", "word", "begun", "ended", "told"] (spInit K C cB) := by
  refine F.ok scInit (fun vs H Q E h => ?_) (fun cdv A' outer s H vs Q E hr h => ?_)
  · obtain ⟨a, dx, vc, dc, vw, dw, vb, db, ve, de, vt, dt, rfl, _⟩ := h
    rfl
  · obtain ⟨a, dx, vc, dc, vw, dw, vb, db, ve, de, vt, dt, rfl, ha, gc, sz, gw, nw, sw, gb, ge, gt, q1, q2⟩ := h
    refine ⟨_, (pss_cons (ps_expr (pe_call GK hr (by rfl) gK FK.kp bK .nil (passes_call (takes_of rfl rfl rfl rfl) fun _ _ _ _ z => z) (pa_cons (pv 1) (pa_cons (pv 2) (pa_cons (pv 3) (pa_cons (pv 4) (pa_cons (pv 5) pa_nil)))))))
(pss_cons (ps_fld (pv 0) (pv 1) rfl)
(pss_cons (ps_fld (pv 0) (pv 2) rfl)
(pss_cons (ps_fld (pv 0) (pv 3) rfl)
(pss_cons (ps_fld (pv 0) (pv 4) rfl)
(pss_one (ps_fld (pv 0) (pv 5) rfl))))))), ?_⟩
    refine ⟨vc, rfl, vw, rfl, vb, rfl, ve, rfl, vt, rfl, vc, dc, vw, dw, vb, db, ve, de, vt, dt, rfl, gc, sz, gw, nw, sw, gb, ge, gt, fun z H1 s1 => ?_, fun p z => q2 p z⟩
    obtain ⟨r, ok, rfl, rfl, rfl, rfl, rfl⟩ := bad_none z
    have e1 : vc = .str r.c := by cases gc; rfl
    have e2 : vw = .str (wd r.g) := by cases gw; rfl
    have e3 : vb = .int r.b := by cases gb; rfl
    have e4 : ve = oV r.e := by cases h : r.e <;> (rw [h] at ge; cases ge; rfl)
    have e5 : vt = oV r.t := by cases h : r.t <;> (rw [h] at gt; cases gt; rfl)
    subst e1 e2 e3 e4 e5
    have h1 := s1 _ _ ha
    refine ⟨_, rfl, _, rfl, a, C, dx, [], rfl, h1, A.cl, A.nc, (by decide), ?_⟩
    refine ⟨_, rfl, _, rfl, a, C, dx, _, rfl, upd_same, A.cl, A.nw, (by show 1 < 1000; decide), ?_⟩
    refine ⟨_, rfl, _, rfl, a, C, dx, _, rfl, upd_same, A.cl, A.nb, (by show 2 < 1000; decide), ?_⟩
    refine ⟨_, rfl, _, rfl, a, C, dx, _, rfl, upd_same, A.cl, A.ne, (by show 3 < 1000; decide), ?_⟩
    refine ⟨_, rfl, _, rfl, a, C, dx, _, rfl, upd_same, A.cl, A.nt, (by show 4 < 1000; decide), ?_⟩
    refine q1 r ok rfl rfl rfl rfl rfl _ (fun b o hb e => ?_) ⟨dx, upd_same⟩
    rw [upd_ne hb, upd_ne hb, upd_ne hb, upd_ne hb, upd_ne hb]
    exact s1 _ _ e
theorem scAhead : FnScope ["self", "other"] ["self", "other"] (defScope sAhead) := ⟨rfl, rfl, rfl, by decide +kernel, rfl, by decide +kernel, by decide +kernel⟩
theorem ok_ahead {f : Addr} {fd : FuncData} {q : Str} (F : Fun K "is_ahead" q sAhead f fd) (A : AskC K mg C) (T : B0 mg) (M : Mk1 P w K mg base "BadAsk" cB "part" "part") : FnOk P w K mg base (L2.CX P w) 7 f fd ["self", "other"] (spAhead K C cB) := by
  obtain ⟨fR, dR, ER, FR, bR, _⟩ := M.has
  refine F.okX scAhead (fun vs H Q E h => ?_) (fun cdv A' outer s H vs Q E hr h => ?_)
  · obtain ⟨a, r, y, rfl, _⟩ := h
    rfl
  · obtain ⟨a, r, y, rfl, ⟨dx, ha⟩, h⟩ := h
    refine ⟨_, (pss_cons (ps_if (pt_not (pt_val (pe_callB call_isi (by rfl) T.isi (by decide +kernel) (pa_cons (pv 1) (pa_cons (pe_glob (v := .ref C) (by rfl) A.mg rfl) pa_nil)))))
(pss_one (ps_raise rfl (takes_of rfl rfl rfl rfl) (pmk_oex ER.ox ER.ini ER.ti FR hr bR .nil pass0 (by rfl) ER.gl (pa_cons pe_str pa_nil))))
pss_nil)
(pss_one (ps_ret (pe_and (pe_cmpR op_notN (pe_fld (pv 0) rfl) pe_non (nomark _)) (pe_one (pe_cmpR op_lt (pe_fld (pv 0) rfl) (pe_fld (pv 1) rfl) (nomark _))))))), ?_⟩
    rcases h with ⟨b, s, rfl, ⟨dy, hb⟩, q⟩ | ⟨⟨t, ty, kn⟩, q⟩
    · refine ⟨.ref b, rfl, .ref b, .ref C, _, _, true, rfl, .own _, .base (A.ty H b dy _ hb), A.me, true, rfl, iteF' ?_⟩
      cases he : r.e with
      | none =>
        have q : Q (.bl false) H := by rw [ahead, he] at q; exact q
        refine ⟨_, rfl, a, C, dx, flds r, .non, rfl, ha, A.cl, A.ne, by rw [flds, he]; rfl, rfl, false, rfl, iteF' q⟩
      | some e =>
        have q : Q (.bl (decide (e < s.b))) H := by rw [ahead, he] at q; exact q
        refine ⟨_, rfl, a, C, dx, flds r, .int e, rfl, ha, A.cl, A.ne, by rw [flds, he]; rfl, rfl, true, rfl, iteT' ?_⟩
        exact ⟨_, rfl, a, C, dx, flds r, .int e, rfl, ha, A.cl, A.ne, by rw [flds, he]; rfl, _, rfl, b, C, dy, flds s, .int s.b, rfl, hb, A.cl, A.nb, rfl, e, s.b, rfl, rfl, q⟩
    · exact ⟨y, rfl, y, .ref C, _, _, false, rfl, .own _, ty, kn, false, rfl, iteT' (raise_str q)⟩
theorem scEq : FnScope ["self", "other"] ["self", "other"] (defScope sEq) := ⟨rfl, rfl, rfl, by decide +kernel, rfl, by decide +kernel, by decide +kernel⟩
theorem ok_eq {f : Addr} {fd : FuncData} {q : Str} (F : Fun K "__eq__" q sEq f fd) (A : AskC K mg C) (T : B0 mg) : FnOk P w K mg base CX0 1 f fd ["self", "other"] (spEqA K C) := by
  refine F.ok scEq (fun vs H Q E h => ?_) (fun cdv A' outer s H vs Q E hr h => ?_)
  · obtain ⟨a, r, y, rfl, _⟩ := h
    rfl
  · obtain ⟨a, r, y, rfl, ⟨dx, ha⟩, h⟩ := h
    refine ⟨_, (pss_cons (ps_if (pt_not (pt_val (pe_callB call_isi (by rfl) T.isi (by decide +kernel) (pa_cons (pv 1) (pa_cons (pe_glob (v := .ref C) (by rfl) A.mg rfl) pa_nil)))))
(pss_one (ps_ret pe_bl))
pss_nil)
(pss_cons (ps_if (PW.pt (pw_or (pt_cmpR op_ne (pe_fld (pv 0) rfl) (pe_fld (pv 1) rfl) (nomark _)) (pw_or (pt_cmpR op_ne (pe_fld (pv 0) rfl) (pe_fld (pv 1) rfl) (nomark _)) (pw_or1 (pt_cmpR op_ne (pe_fld (pv 0) rfl) (pe_fld (pv 1) rfl) (nomark _))))))
(pss_one (ps_ret pe_bl))
pss_nil)
(pss_one (ps_ret (pe_and (pe_cmpR op_eq (pe_fld (pv 0) rfl) (pe_fld (pv 1) rfl) (nomark _)) (pe_one (pe_cmpR op_eq (pe_fld (pv 0) rfl) (pe_fld (pv 1) rfl) (nomark _)))))))), ?_⟩
    rcases h with ⟨b, s, rfl, ⟨dy, hb⟩, q⟩ | ⟨⟨t, ty, kn⟩, q⟩
    · refine ⟨.ref b, rfl, .ref b, .ref C, _, _, true, rfl, .own _, .base (A.ty H b dy _ hb), A.me, true, rfl, iteF' ?_⟩
      refine ⟨_, rfl, a, C, dx, flds r, .str r.c, rfl, ha, A.cl, A.nc, rfl, _, rfl, b, C, dy, flds s, .str s.c, rfl, hb, A.cl, A.nc, rfl, ?_⟩
      have dq : ∀ {x y : V} {p : Prop} [Decidable p], (p ↔ x = y) → decide (x = y) = decide p := fun {x y p} _ h => by
        by_cases z : p
        · rw [decide_eq_true z, decide_eq_true (h.mp z)]
        · rw [decide_eq_false z, decide_eq_false fun k => z (h.mpr k)]
      have ne : ∀ {x y : V} {p : Prop} [Decidable p], (p ↔ x = y) → V.bl (!decide (x = y)) = V.bl (!decide p) := fun h => by rw [dq h]
      have eq : ∀ {x y : V} {p : Prop} [Decidable p], (p ↔ x = y) → V.bl (decide (x = y)) = V.bl (decide p) := fun h => by rw [dq h]
      have iO : ∀ o u : Option Int, o = u ↔ oV o = oV u := fun o u => ⟨fun z => by rw [z], fun z => by
        cases o <;> cases u <;> first | rfl | (cases z; done) | (cases z; rfl)⟩
      have sO : ∀ o u : Option Int, scal (oV o) (oV u) = true := fun o u => by cases o <;> cases u <;> rfl
      have iW : r.g = s.g ↔ V.str (wd r.g) = V.str (wd s.g) := ⟨fun z => by rw [z], fun z => by
        have z := V.str.inj z
        cases hg : r.g <;> cases hk : s.g <;> first | rfl | (rw [hg, hk] at z; exact absurd z (by decide))⟩
      have iS : r.c = s.c ↔ V.str r.c = V.str s.c := ⟨fun z => by rw [z], V.str.inj⟩
      have iB : r.b = s.b ↔ V.int r.b = V.int s.b := ⟨fun z => by rw [z], V.int.inj⟩
      have off : r ≠ s → Q (.bl false) H := fun z => by rw [decide_eq_false z] at q; exact q
      refine ⟨rfl, _, ne iS, ?_⟩
      by_cases c1 : r.c = s.c
      · rw [decide_eq_true c1]
        refine iteF' ⟨_, rfl, a, C, dx, flds r, .str (wd r.g), rfl, ha, A.cl, A.nw, rfl, _, rfl, b, C, dy, flds s, .str (wd s.g), rfl, hb, A.cl, A.nw, rfl, rfl, _, ne iW, ?_⟩
        by_cases c2 : r.g = s.g
        · rw [decide_eq_true c2]
          refine iteF' ⟨_, rfl, a, C, dx, flds r, oV r.t, rfl, ha, A.cl, A.nt, rfl, _, rfl, b, C, dy, flds s, oV s.t, rfl, hb, A.cl, A.nt, rfl, sO _ _, _, ne (iO _ _), ?_⟩
          by_cases c3 : r.t = s.t
          · rw [decide_eq_true c3]
            refine iteF' ?_
            refine ⟨_, rfl, a, C, dx, flds r, .int r.b, rfl, ha, A.cl, A.nb, rfl, _, rfl, b, C, dy, flds s, .int s.b, rfl, hb, A.cl, A.nb, rfl, rfl, _, eq iB, ?_⟩
            by_cases c4 : r.b = s.b
            · rw [decide_eq_true c4]
              refine iteT' ⟨_, rfl, a, C, dx, flds r, oV r.e, rfl, ha, A.cl, A.ne, rfl, _, rfl, b, C, dy, flds s, oV s.e, rfl, hb, A.cl, A.ne, rfl, sO _ _, ?_⟩
              rw [eq (iO r.e s.e)]
              have e : decide (r = s) = decide (r.e = s.e) := by
                by_cases c5 : r.e = s.e
                · rw [decide_eq_true c5]
                  refine decide_eq_true ?_
                  obtain ⟨x1, x2, x3, x4, x5⟩ := r
                  obtain ⟨y1, y2, y3, y4, y5⟩ := s
                  cases c1; cases c2; cases c3; cases c4; cases c5
                  rfl
                · rw [decide_eq_false c5]
                  exact decide_eq_false fun z => c5 (by rw [z])
              rw [← e]
              exact q
            · rw [decide_eq_false c4]
              exact iteF' (off fun z => c4 (by rw [z]))
          · rw [decide_eq_false c3]
            exact iteT' (off fun z => c3 (by rw [z]))
        · rw [decide_eq_false c2]
          exact iteT' (iteT' (off fun z => c2 (by rw [z])))
      · rw [decide_eq_false c1]
        exact iteT' (iteT' (off fun z => c1 (by rw [z])))
    · exact ⟨y, rfl, y, .ref C, _, _, false, rfl, .own _, ty, kn, false, rfl, iteT' q⟩
end
end K36
end

section
set_option Elab.async false
set_option linter.all false
set_option maxRecDepth 100000
set_option maxHeartbeats 4000000
/-! a history is looked at -/
namespace K36
open PySem L2 KZ
abbrev sNeed : Stmt := top 17
structure B1 (mg : Str → Option Value) : Prop extends B0 mg where
  range : mg "range" = none
  max : mg "max" = none
  min : mg "min" = none
  sorted : mg "sorted" = none
  repr : mg "repr" = none
  abs : mg "abs" = none
  enum : mg "enumerate" = none
section
variable {X : Cx}
theorem call_isiQ (K : PySem.W.Frag) (h : X.K = K := by rfl) : CallR X (.builtin "isinstance") (rIsi K) := by subst h; exact call_isi
theorem ix_seqK (K : PySem.W.Frag) (h : X.K = K := by rfl) : IxR X (rIx K) := by subst h; exact ix_seq
theorem pe_fldK {e : Expr} {f : Str} {pos : Pos} {ta : TE} (K : PySem.W.Frag) (he : PE X e ta) (hb : attributeBase e f X.env (eval e X.env) = eval e X.env) (h : X.K = K := by rfl) : PE X (.Attribute e f pos) (tFld K ta f) := by
  subst h
  exact pe_fld he hb
end
theorem at_nat {α : Type} {xs : List α} {i : Nat} {v : α} (h : xs[i]? = some v) : atI xs (i : Int) = some v := by
  have hl := (List.getElem?_eq_some_iff.mp h).1
  unfold atI ixN
  rw [if_pos (by omega), if_pos (by omega)]
  exact h
/-- a list or a tuple -/
def Sq (K : PySem.W.Frag) (H : Hp) (a : Addr) (xs : List V) : Prop := SqL K H a xs ∨ SqT K H a xs
theorem Sq.mono {K : PySem.W.Frag} {H H' : Hp} {a : Addr} {xs : List V} (s : Same H H') (h : Sq K H a xs) : Sq K H' a xs := h.elim (fun z => .inl (s.seq z)) fun z => .inr (sqT_mono s z)
def iSq (K : PySem.W.Frag) (tl : TE) : TI := fun σ H R => tl σ H fun x H1 => ∃ a xs, x = .ref a ∧ Sq K H1 a xs ∧ ∀ J G, Walk J xs.length G (YAt xs) → (∀ H, Same H1 H → G H) → R J H1
theorem pi_sq {X : Cx} {tg l : Expr} {tl : TE} (hl : PE X l tl) : PI X tg l (iSq X.K tl) := by
  refine ⟨fun pins s σ H R I h => thn (hl.run pins s σ H _ I h) fun v s1 ⟨x, H1, I1, r1, q1⟩ => ?_⟩
  obtain ⟨a, xs, e, sq, k⟩ := q1
  subst e
  cases (show v = Value.ref a from r1)
  rcases sq with sq | sq
  · obtain ⟨its, _, p, _⟩ := I1.list sq
    exact wpAny_pyIter_list p.isList (pi_one (tk := s1.toks) I1 _ (turn_list a _) ⟨_, Heap.get?_push_size _ rfl, rfl, rfl⟩ (k _ _ walk_list fun H s => s.seq sq))
  · obtain ⟨its, _, p, _⟩ := I1.tuple sq
    exact wpAny_pyIter_tuple p (pi_one (tk := s1.toks) I1 _ (turn_tuple a _) ⟨_, Heap.get?_push_size _ rfl, rfl, rfl⟩ (k _ _ walk_tup fun H s => sqT_mono s sq))
theorem Sq.len {K : PySem.W.Frag} {H : Hp} {a : Addr} {xs : List V} (h : Sq K H a xs) : LenV K (.ref a) H xs.length := h.elim (fun z => .inl ⟨_, z, rfl⟩) fun z => .inr ⟨_, z, rfl⟩
theorem Sq.ix {K : PySem.W.Frag} {H : Hp} {a : Addr} {xs : List V} {i : Int} {v : V} {Q : VK} (h : Sq K H a xs) (e : atI xs i = some v) (q : Q v H) : rIx K (.ref a) (.int i) H Q := h.elim (fun z => .inl ⟨a, xs, i, v, rfl, rfl, z, e, q⟩) fun z => .inr (.inl ⟨a, xs, i, v, rfl, rfl, z, e, q⟩)
theorem Sq.ty {K : PySem.W.Frag} {H : Hp} {a : Addr} {xs : List V} (h : Sq K H a xs) : TyX K H (.ref a) (.type "list") ∨ TyX K H (.ref a) (.type "tuple") := by
  rcases h with ((q | ⟨o, q⟩) | ⟨o, its, n, q, c, _⟩) | ((q | ⟨o, q⟩) | ⟨o, its, n, q, c, _⟩)
  · exact .inl (.base (.lst q))
  · exact .inl (.base (.frz q))
  · exact .inl (.kList q c)
  · exact .inr (.base (.tup q))
  · exact .inr (.fTuple q)
  · exact .inr (.kTuple q c)
/-- neither a list nor a tuple -/
def NoSq (K : PySem.W.Frag) (H : Hp) (v : V) : Prop := ∃ t, TyX K H v t ∧ PySem.W.kitOne K t (.type "list") = some false ∧ PySem.W.kitOne K t (.type "tuple") = some false
/-- at these addresses stand the asks of these rows -/
def AsksAt (C : Addr) (H : Hp) (ps : List Addr) (rs : List Row) : Prop := ps.length = rs.length ∧ ∀ (i : Nat) p r, ps[i]? = some p → rs[i]? = some r → AskAt C H p r
/-- the asks of the rows, in a list or a tuple -/
structure Hist (K : PySem.W.Frag) (C : Addr) (H : Hp) (a : Addr) (rs : List Row) : Prop where
  ex : ∃ ps : List Addr, Sq K H a (ps.map V.ref) ∧ AsksAt C H ps rs
theorem Hist.mono {K : PySem.W.Frag} {C : Addr} {H H' : Hp} {a : Addr} {rs : List Row} (s : Same H H') (h : Hist K C H a rs) : Hist K C H' a rs := by
  obtain ⟨ps, h1, h2, h3⟩ := h
  exact ⟨ps, Sq.mono s h1, h2, fun i p r e1 e2 => (h3 i p r e1 e2).mono s⟩
/-- whether the i-th tells what it may not -/
def badAt (rs : List Row) (i : Nat) : Bool := match rs[i]?.bind (·.t) with
  | none => false
  | some j => decide ((rs.length : Int) ≤ j) || (match rs[j.toNat]? with
    | some r => r.g
    | none => true)
def firstBad (rs : List Row) : Option Nat := (List.range rs.length).find? (badAt rs)
def spNeed (K : PySem.W.Frag) (C cB cT : Addr) : Sp := fun vs H Q E => ∃ v, vs = [v] ∧ ((NoSq K H v ∧ OutF cB [("part", .str "asks")] H E) ∨
  (∃ a xs, ∃ g : V → Bool, v = .ref a ∧ Sq K H a xs ∧ xs.length ≤ 2000 ∧ (∀ x ∈ xs, ∃ t, TyX K H x t ∧ PySem.W.kitOne K t (.ref C) = some (g x)) ∧ (∃ x ∈ xs, g x = false) ∧ OutF cB [("part", .str "asks")] H E) ∨
  ∃ a rs, v = .ref a ∧ Hist K C H a rs ∧ rs.length ≤ 2000 ∧ (∀ r ∈ rs, r.Ok) ∧ (1000 < rs.length → OutF cT [("most", .int 1000), ("what", .str "asks")] H E) ∧
    (rs.length ≤ 1000 → ∀ i, firstBad rs = some i → OutF cB [("part", .int i)] H E) ∧ (rs.length ≤ 1000 → firstBad rs = none → ∀ H', Same H H' → Q .non H'))
section
variable {P : Program} {w : World} {K : PySem.W.Frag} {mg : Str → Option Value} {base : Heap} {cB cT C : Addr}
theorem raise_int {σ : L2.St} {H : Hp} {E : XK} {p : Int} (q : OutF cB [("part", .int p)] H E) : tMkO cB (spE1 K cB "part") [] (tCons (tC (.int p)) tNil) σ H fun cls d H' => E cls d H' := by
  refine ⟨(show 1 ≤ 1000 by decide), fun a ha => ⟨a, .int p, .int p, fun _ => none, rfl, trivial, (fun _ _ z => nomatch z), (fun _ _ _ z => nomatch z), rfl, .int _, upd_same, ?_⟩⟩
  intro v' G' dx H' s1 nf' bs ga gd hdx ne s' kp ea ed dv'
  cases dv'
  refine ⟨rfl, dx, _, ea, ed, by rw [upd_ne ne] at hdx; exact hdx, q dx _ (fun b o e => ?_) upd_same⟩
  have hb : b ≠ a := ne_of_none e ha
  rw [upd_ne ne] at hdx
  rw [upd_ne (ne_of_none e hdx), del_ne hb]
  exact kp _ _ hb (by rw [upd_ne hb]; exact e)
theorem raise_many {σ : L2.St} {H : Hp} {E : XK} {x : Str} {p : Int} (q : OutF cT [("most", .int p), ("what", .str x)] H E) : tMkO cT (spE2 K cT "what" "most") [] (tCons (tC (.str x)) (tCons (tC (.int p)) tNil)) σ H fun cls d H' => E cls d H' := by
  refine ⟨(show 2 ≤ 1000 by decide), fun a ha => ⟨a, .str x, .int p, .str x, .int p, fun _ => none, rfl, trivial, trivial, (fun _ _ z => nomatch z), (fun _ _ _ z => nomatch z), rfl, .str _, .int _, upd_same, ?_⟩⟩
  intro v' u' G' dx H' s1 nf' bs ga gd hdx ne s' kp ea ed dv' du'
  cases dv'
  cases du'
  refine ⟨rfl, dx, _, ea, ed, by rw [upd_ne ne] at hdx; exact hdx, q dx _ (fun b o e => ?_) upd_same⟩
  have hb : b ≠ a := ne_of_none e ha
  rw [upd_ne ne] at hdx
  rw [upd_ne (ne_of_none e hdx), del_ne hb]
  exact kp _ _ hb (by rw [upd_ne hb]; exact e)
theorem tyOf_mono {H H' : Hp} {v : V} {t : Value} (s : Same H H') (h : TyOf K H v t) : TyOf K H' v t := by
  cases h with
  | non => exact .non
  | bl x => exact .bl x
  | int i => exact .int i
  | str x => exact .str x
  | flt x => exact .flt x
  | lst e => exact .lst (s _ _ e)
  | frz e => exact .frz (s _ _ e)
  | tup e => exact .tup (s _ _ e)
  | dK e => exact .dK (s _ _ e)
  | dT e => exact .dT (s _ _ e)
  | ins e cl ha hn htk hm => exact .ins (s _ _ e) cl ha hn htk hm
theorem tyX_mono {H H' : Hp} {v : V} {t : Value} (s : Same H H') (h : TyX K H v t) : TyX K H' v t := by
  cases h with
  | base h => exact .base (tyOf_mono s h)
  | byt b => exact .byt b
  | set e => exact .set (s _ _ e)
  | kList e c => exact .kList e c
  | kTuple e c => exact .kTuple e c
  | kDict e c => exact .kDict e c
  | fTuple e => exact .fTuple (s _ _ e)
  | fDict e => exact .fDict (s _ _ e)
theorem any2 {t : Value} (k1 : PySem.W.kitOne K t (.type "list") = some false) (k2 : PySem.W.kitOne K t (.type "tuple") = some false) : PySem.W.kitAny K t [.type "list", .type "tuple"] = some false := by
  simp only [PySem.W.kitAny, k1, k2]
theorem anyS {H : Hp} {a : Addr} {xs : List V} (h : Sq K H a xs) : ∃ t, TyX K H (.ref a) t ∧ PySem.W.kitAny K t [.type "list", .type "tuple"] = some true := by
  have k1 : PySem.W.kitOne K (.type "list") (.type "list") = some true := kit_ty (by decide +kernel)
  have k2 : PySem.W.kitOne K (.type "tuple") (.type "list") = some false := kit_ty (by decide +kernel)
  have k3 : PySem.W.kitOne K (.type "tuple") (.type "tuple") = some true := kit_ty (by decide +kernel)
  rcases h.ty with z | z
  · exact ⟨_, z, by simp only [PySem.W.kitAny, k1]⟩
  · exact ⟨_, z, by simp only [PySem.W.kitAny, k2, k3]⟩
theorem Hist.sq {H : Hp} {a : Addr} {rs : List Row} (h : Hist K C H a rs) : ∃ ps : List Addr, Sq K H a (ps.map V.ref) ∧ AsksAt C H ps rs := h.ex
theorem scNeed : FnScope ["asks", "ask", "at", "told"] ["asks"] (defScope sNeed) := ⟨rfl, rfl, rfl, by decide +kernel, rfl, by decide +kernel, by decide +kernel⟩
theorem ok_need {f : Addr} {fd : FuncData} (F : Fun K "need_asks" "need_asks" sNeed f fd) (A : AskC K mg C) (T : B1 mg) (hm : ∃ t, mg "MOST_ASKS" = some (.int 1000 t)) (M : Mk1 P w K mg base "BadAsk" cB "part" "part") (M2 : Mk2 P w K mg base "TooMany" cT "what" "most" "what" "most") :
    FnOk P w K mg base (L2.CX P w) 7 f fd ["asks"] (spNeed K C cB cT) := by
  obtain ⟨fR, dR, ER, FR, bR, _⟩ := M.has
  obtain ⟨fR2, dR2, ER2, FR2, bR2, _⟩ := M2.has
  obtain ⟨tk, hm⟩ := hm
  refine F.okX scNeed (fun vs H Q E h => ?_) (fun cdv A' outer s H vs Q E hr h => ?_)
  · obtain ⟨v, rfl, _⟩ := h
    rfl
  · obtain ⟨v, rfl, h⟩ := h
    refine ⟨_, (pss_cons (ps_if (PW.pt (pw_or (pt_not (pt_val (pe_callB call_isiT (by rfl) T.isi (by decide +kernel) (pa_cons (pv 0) (pa_cons (pe_tup (pa_cons (pe_bltn (v := .ty "list") (by rfl) T.list (by decide +kernel) rfl) (pa_cons (pe_bltn (v := .ty "tuple") (by rfl) T.tuple (by decide +kernel) rfl) pa_nil))) pa_nil))))) (pw_or1 (pt_not (pt_val (pe_callB (cr_all rfl) (by rfl) T.all (by decide +kernel) (pa_cons (pe_lc (own := [("ask", 1)]) (g := gName 1) (tt := tYes) (by rfl) scNeed.nd (pi_sq (pv 0)) (blkOk_by (own := [("ask", 1)]) (N := ["asks", "ask", "at", "told"]) (sc := defScope sNeed) (by decide +kernel)) (fun _ _ _ _ _ => pg_name (i := 1) scNeed.nd rfl (Or.inl rfl)) (fun _ _ _ _ _ => pts_nil) (fun _ _ _ _ _ => pe_callB (call_isiQ K) (by rfl) T.isi (by decide +kernel) (pa_cons (pv 1) (pa_cons (pe_glob (v := .ref C) (by rfl) A.mg rfl) pa_nil)))) pa_nil)))))))
(pss_one (ps_raise rfl (takes_of rfl rfl rfl rfl) (pmk_oex ER.ox ER.ini ER.ti FR hr bR .nil pass0 (by rfl) ER.gl (pa_cons pe_str pa_nil))))
pss_nil)
(pss_cons (ps_if (pt_cmpR op_gt (pe_callB call_len (by rfl) T.len PySem.boot_len (pa_cons (pv 0) pa_nil)) (pe_glob (v := .int 1000) (by rfl) hm ⟨_, rfl⟩) (nomark _))
(pss_one (ps_raise rfl (takes_of rfl rfl rfl rfl) (pmk_oex ER2.ox ER2.ini ER2.ti FR2 hr bR2 .nil pass0 (by rfl) ER2.gl (pa_cons pe_str (pa_cons (pe_glob (v := .int 1000) (by rfl) hm ⟨_, rfl⟩) pa_nil)))))
pss_nil)
(pss_one (ps_for (passes_of rfl) rfl (pi_range1 (by rfl) T.range (pa_cons (pe_callB call_len (by rfl) T.len PySem.boot_len (pa_cons (pv 0) pa_nil)) pa_nil)) (pg_name (i := 2) scNeed.nd rfl (Or.inl rfl))
(pss_cons (ps_set (i := 3) scNeed.nd rfl (Or.inl rfl) (pe_fldK K (pe_ix (ix_seqK K) (pv 0) (pv 2) (fun _ _ => rfl)) rfl))
(pss_one (ps_if (PW.pt (pw_and (pt_cmpR op_notN (pv 3) pe_non (nomark _)) (pw_and1 (PW.pt (pw_or (pt_cmpR op_ge (pv 3) (pe_callB call_len (by rfl) T.len PySem.boot_len (pa_cons (pv 0) pa_nil)) (nomark _)) (pw_or1 (pt_cmpR op_ne (pe_fldK K (pe_ix (ix_seqK K) (pv 0) (pv 3) (fun _ _ => rfl)) rfl) pe_str (nomark _))))))))
(pss_one (ps_raise rfl (takes_of rfl rfl rfl rfl) (pmk_oex ER.ox ER.ini ER.ti FR hr bR .nil pass0 (by rfl) ER.gl (pa_cons (pv 2) pa_nil))))
pss_nil))))))), ?_⟩
    rcases h with ⟨⟨t, ty, k1, k2⟩, q⟩ | h
    · exact ⟨v, rfl, (by show 2 ≤ sizeLine; decide), fun tp htp => ⟨v, tp, [.ty "list", .ty "tuple"], t, [.type "list", .type "tuple"], false, rfl, upd_same, .cons (.ty _) (.cons (.ty _) .nil), tyX_mono (same_new htp) ty, any2 k1 k2, false, rfl, iteT' (iteT' (raise_str (q.at (same_new htp))))⟩⟩
    obtain ⟨a, xs, g, rfl, sq, hl, hg, rest⟩ : ∃ a xs, ∃ g : V → Bool, v = .ref a ∧ Sq K H a xs ∧ xs.length ≤ 2000 ∧ (∀ x ∈ xs, ∃ t, TyX K H x t ∧ PySem.W.kitOne K t (.ref C) = some (g x)) ∧
        (((xs.map g).all id = false ∧ OutF cB [("part", .str "asks")] H E) ∨ ((xs.map g).all id = true ∧ ∃ rs ps, xs = ps.map V.ref ∧ AsksAt C H ps rs ∧ (∀ r ∈ rs, r.Ok) ∧ (1000 < rs.length → OutF cT [("most", .int 1000), ("what", .str "asks")] H E) ∧
          (rs.length ≤ 1000 → ∀ i, firstBad rs = some i → OutF cB [("part", .int i)] H E) ∧ (rs.length ≤ 1000 → firstBad rs = none → ∀ H', Same H H' → Q .non H'))) := by
      rcases h with ⟨a, xs, g, rfl, sq, hl, hx, ⟨z, hz, nz⟩, q⟩ | ⟨a, rs, rfl, hh, hl, ok, q1, q2, q3⟩
      · exact ⟨a, xs, g, rfl, sq, hl, hx, .inl ⟨List.all_eq_false.mpr ⟨g z, List.mem_map.mpr ⟨z, hz, rfl⟩, by rw [nz]; exact fun k => nomatch k⟩, q⟩⟩
      · obtain ⟨ps, h1, h2⟩ := hh.sq
        refine ⟨a, ps.map V.ref, fun _ => true, rfl, h1, by rw [List.length_map, h2.1]; exact hl, fun x m => ?_, .inr ⟨by simp, rs, ps, rfl, h2, ok, q1, q2, q3⟩⟩
        obtain ⟨p, mp, rfl⟩ := List.mem_map.mp m
        obtain ⟨i, hi, e⟩ := List.mem_iff_getElem.mp mp
        have hi2 : i < rs.length := by rw [← h2.1]; exact hi
        obtain ⟨dx, e2⟩ := h2.2 i p rs[i] (by rw [← e]; exact List.getElem?_eq_getElem hi) (List.getElem?_eq_getElem hi2)
        exact ⟨_, .base (A.ty H p dx _ e2), A.me⟩
    refine ⟨.ref a, rfl, (by show 2 ≤ sizeLine; decide), fun tp htp => ?_⟩
    have s1 := same_new (o := .tup [V.ty "list", V.ty "tuple"]) htp
    have sq1 := Sq.mono s1 sq
    obtain ⟨t, ty, ka⟩ := anyS sq1
    refine ⟨.ref a, tp, [.ty "list", .ty "tuple"], t, [.type "list", .type "tuple"], true, rfl, upd_same, .cons (.ty _) (.cons (.ty _) .nil), ty, ka, true, rfl, iteF' ?_⟩
    have hg1 : ∀ x ∈ xs, ∃ t, TyX K (upd H tp (.tup [V.ty "list", V.ty "tuple"])) x t ∧ PySem.W.kitOne K t (.ref C) = some (g x) := fun x m => let ⟨t, h1, h2⟩ := hg x m; ⟨t, tyX_mono s1 h1, h2⟩
    generalize upd H tp (.tup [V.ty "list", V.ty "tuple"]) = H1 at s1 sq1 hg1 ⊢
    refine ⟨.ref a, rfl, a, xs, rfl, sq1, fun J G wk hG D hD => lc_it wk (fun i H' => H' = upd H1 D (.lst ((xs.take i).map fun x => V.bl (g x)))) (by simp) (fun i H' _ e => hG _ (by rw [e]; exact same_new hD)) ?_ ?_⟩
    · rintro i x H2 H3 hi rfl ⟨rfl, hx⟩
      obtain ⟨t, ty, k⟩ := hg1 x (List.mem_of_getElem? hx)
      refine ⟨rfl, yes_go ⟨x, rfl, x, .ref C, t, .ref C, g x, rfl, .own _, tyX_mono (same_new hD) ty, k, _, upd_same, ?_, ?_⟩⟩
      · rw [List.length_map, List.length_take]
        exact Nat.lt_of_le_of_lt (Nat.min_le_right _ _) (Nat.lt_of_le_of_lt hl (by decide))
      · rw [upd_upd, List.take_add_one, hx, List.map_append]
        rfl
    · rintro H2 rfl
      refine ⟨D, xs.map g, rfl, SqL.of (by rw [upd_same, List.take_of_length_le (Nat.le_refl _), List.map_map]; rfl), (xs.map g).all id, rfl, ?_⟩
      have s2 := s1.trans (same_new (o := .lst ((xs.take xs.length).map fun x => V.bl (g x))) hD)
      have sq2 := Sq.mono (same_new (o := .lst ((xs.take xs.length).map fun x => V.bl (g x))) hD) sq1
      generalize upd H1 D _ = H2 at s2 sq2 ⊢
      rcases rest with ⟨af, q⟩ | ⟨at_, rs, ps, rfl, h2, ok, q1, q2, q3⟩
      · rw [af]
        exact iteT' (raise_str (q.at s2))
      · rw [at_]
        have nl : rs.length = (ps.map V.ref).length := by rw [List.length_map, h2.1]
        refine iteF' ⟨.ref a, rfl, .ref a, (ps.map V.ref).length, rfl, sq2.len, ((ps.map V.ref).length : Int), 1000, rfl, rfl, decide ((1000 : Int) < ((ps.map V.ref).length : Int)), rfl, ?_⟩
        by_cases big : 1000 < rs.length
        · rw [decide_eq_true (show (1000 : Int) < ((ps.map V.ref).length : Int) by omega)]
          exact iteT' (raise_many ((q1 big).at s2))
        · rw [decide_eq_false (show ¬ (1000 : Int) < ((ps.map V.ref).length : Int) by omega)]
          refine iteF' ?_
          have le : rs.length ≤ 1000 := by omega
          refine ⟨.ref a, rfl, .ref a, (ps.map V.ref).length, rfl, sq2.len, ((ps.map V.ref).length : Nat), rfl, by omega, by rw [← nl]; omega, for_range (n := (ps.map V.ref).length) (fun i σ H' => H' = H2 ∧ ∃ x y, σ = [some (.ref a), none, x, y] ∧ ∀ j, j < i → badAt rs j = false) ⟨rfl, none, none, rfl, fun j hj => by omega⟩ ?_ ?_⟩
          · rintro i σ H3 hi ⟨rfl, x, y, rfl, old⟩
            have hi2 : i < rs.length := by omega
            have hip : i < ps.length := by rw [List.length_map] at hi; exact hi
            obtain ⟨dx, ea⟩ := (h2.2 i ps[i] rs[i] (List.getElem?_eq_getElem hip) (List.getElem?_eq_getElem hi2)).mono s2
            have at1 : atI (ps.map V.ref) (0 + (i : Int)) = some (.ref ps[i]) := by
              rw [Int.zero_add]
              exact at_nat (by rw [List.getElem?_map, List.getElem?_eq_getElem hip]; rfl)
            refine ⟨.ref a, rfl, .int (0 + (i : Int)), rfl, Sq.ix sq2 at1 ⟨ps[i], C, dx, flds rs[i], oV rs[i].t, rfl, ea, A.cl, A.nt, rfl, ?_⟩⟩
            have bd : badAt rs i = (match rs[i].t with
              | none => false
              | some j => decide ((rs.length : Int) ≤ j) || (match rs[j.toNat]? with
                | some r => r.g
                | none => true)) := by
              unfold badAt
              rw [List.getElem?_eq_getElem hi2]
              rfl
            have hit : badAt rs i = true → firstBad rs = some i := fun z => by
              unfold firstBad
              rw [List.find?_range_eq_some]
              exact ⟨z, by simpa using hi2, fun j hj => by rw [old j hj]; rfl⟩
            have out : badAt rs i = true → OutF cB [("part", .int (0 + (i : Int)))] H3 E := fun z => by
              rw [Int.zero_add]
              exact (q2 le i (hit z)).at s2
            have on : badAt rs i = false → ∀ j, j < i + 1 → badAt rs j = false := fun z j hj => by
              by_cases e : j = i
              · rw [e]; exact z
              · exact old j (by omega)
            cases ht : rs[i].t with
            | none =>
              rw [ht] at bd
              dsimp only at bd
              exact ⟨.non, rfl, rfl, false, rfl, iteF' (iteF' ⟨rfl, _, _, rfl, on bd⟩)⟩
            | some j =>
              rw [ht] at bd
              dsimp only at bd
              obtain ⟨n, rfl⟩ : ∃ n : Nat, j = (n : Int) := Int.eq_ofNat_of_zero_le ((ok rs[i] (List.getElem_mem hi2)).tg j ht).2.2
              have bd : badAt rs i = (decide ((rs.length : Int) ≤ (n : Int)) || (match rs[n]? with
                | some r => r.g
                | none => true)) := bd
              refine ⟨.int n, rfl, rfl, true, rfl, iteT' ⟨.int n, rfl, .ref a, rfl, .ref a, (ps.map V.ref).length, rfl, sq2.len, (n : Int), ((ps.map V.ref).length : Int), rfl, rfl, decide (((ps.map V.ref).length : Int) ≤ (n : Int)), rfl, ?_⟩⟩
              rw [← nl]
              by_cases far : (rs.length : Int) ≤ (n : Int)
              · rw [decide_eq_true far] at bd ⊢
                exact iteT' (iteT' ⟨_, rfl, raise_int (σ := []) (out (by rw [bd]; rfl))⟩)
              · rw [decide_eq_false far] at bd ⊢
                have jl : n < rs.length := by omega
                have jp : n < ps.length := by rw [h2.1]; exact jl
                obtain ⟨dy, ej⟩ := (h2.2 n ps[n] rs[n] (List.getElem?_eq_getElem jp) (List.getElem?_eq_getElem jl)).mono s2
                have at2 : atI (ps.map V.ref) (n : Int) = some (.ref ps[n]) := at_nat (by rw [List.getElem?_map, List.getElem?_eq_getElem jp]; rfl)
                rw [List.getElem?_eq_getElem jl] at bd
                have bd : badAt rs i = rs[n].g := bd
                refine iteF' ⟨.ref a, rfl, .int n, rfl, Sq.ix sq2 at2 ⟨ps[n], C, dy, flds rs[n], .str (wd rs[n].g), rfl, ej, A.cl, A.nw, rfl, rfl, rs[n].g, ?_, ?_⟩⟩
                · cases rs[n].g <;> decide +kernel
                · cases hg : rs[n].g with
                  | true => exact iteT' ⟨_, rfl, raise_int (σ := []) (out (bd.trans hg))⟩
                  | false => exact iteF' ⟨rfl, _, _, rfl, on (bd.trans hg)⟩
          · rintro σ H3 ⟨rfl, x, y, rfl, old⟩
            refine q3 le ?_ _ s2
            unfold firstBad
            rw [List.find?_range_eq_none]
            exact fun j hj => by rw [old j (by omega)]; rfl
end
end K36
end

section
set_option Elab.async false
set_option linter.all false
set_option maxRecDepth 100000
set_option maxHeartbeats 4000000
/-! the asks that play a part -/
namespace K36
open PySem L2 KZ
abbrev sTold : Stmt := top 18
abbrev sParts : Stmt := top 19

def tNInP (P : Program) (w : World) (ty td : TE) : TE := fun σ H Q => ty σ H fun y H1 => td σ H1 fun x H2 => ∃ a kvs k, x = .ref a ∧ Rd H2 a (DN P w a kvs) ∧ y = nV k ∧ Q (.bl (valV kvs k).isSome) H2
theorem pc_ninK {X : Cx} {i o : Expr} {ty td : TE} (P : Program) (w : World) (hi : PE X i ty) (ho : PE X o td) (hP : X.prog = P := by rfl) (hw : X.w = w := by rfl) : PC X .In i o (tNInP P w ty td) := by
  subst hP hw
  exact pc_nin hi ho
/-- a walk that fills such a dict -/
theorem dn_it {X : Cx} {J : It} {n : Nat} {Gd : Hp → Prop} {Y : Nat → Hp → V → Hp → Prop} (wk : Walk J n Gd Y) {g : TG} {tt : TT} {tk tv : TE} {vs : List Nat} {σ : L2.St} {H1 : Hp} {D : Addr} {Qd : Hp → Prop} (Pv : Nat → Hp → Prop) (h0 : Pv 0 (upd H1 D (DN X.prog X.w D []))) (hG : ∀ i H, i ≤ n → Pv i H → Gd H)
    (hs : ∀ i x H H', i < n → Pv i H → Y i H x H' → g x (wipe σ vs) H' fun σ2 H2 => wipe σ2 vs = wipe σ vs ∧ tNTurn X D tt tk tv (Pv (i + 1)) σ2 H2) (hd : ∀ H, Pv n H → Qd H) :
    ∃ W : Nat → Nat → Hp → Prop, (∃ m, W 0 m (upd H1 D (DN X.prog X.w D []))) ∧ ∀ i m H, W i m H → (J.stop i H ∧ Qd H) ∨
      (J.go i H ∧ ∃ Nx : Hp → Prop, (∀ H', Nx H' → ∃ m', m' < m ∧ W (i + 1) m' H') ∧ ∀ x H', J.yld i H x H' → g x (wipe σ vs) H' fun σ2 H2 => wipe σ2 vs = wipe σ vs ∧ tNTurn X D tt tk tv Nx σ2 H2) := by
  refine ⟨fun i m H => m = n - i ∧ i ≤ n ∧ Pv i H, ⟨n, by simp, Nat.zero_le _, h0⟩, ?_⟩
  rintro i m H ⟨rfl, hi, p⟩
  have q := hG i H hi p
  by_cases hlt : i < n
  · exact .inr ⟨wk.goes i H hlt q, Pv (i + 1), fun H' p' => ⟨n - (i + 1), by omega, rfl, hlt, p'⟩, fun x H' y => hs i x H H' hlt p (wk.yields i H x H' hlt q y)⟩
  · have e : i = n := by omega
    subst e
    exact .inl ⟨wk.stops H q, hd H p⟩
def nk : Option Int → NK
  | none => none
  | some i => some (.inl i)
theorem nk_inj {o u : Option Int} (h : nk o = nk u) : o = u := by
  cases o <;> cases u <;> first | rfl | (cases h; done) | (cases h; rfl)
theorem nk_v (o : Option Int) : nV (nk o) = oV o := by cases o <;> rfl
/-- a get that has ended -/
def tells (r : Row) : Bool := r.g && r.e.isSome
def toldKvs (rs : List Row) : List (NK × V) := rs.foldl (fun kvs r => if tells r = true then putK kvs (nk r.t) (.bl true) else kvs) []
def isTold (rs : List Row) (o : Option Int) : Bool := rs.any fun r => tells r && decide (r.t = o)
theorem told_val : ∀ (rs : List Row) (kvs : List (NK × V)) (o : Option Int), (valV (rs.foldl (fun kvs r => if tells r = true then putK kvs (nk r.t) (.bl true) else kvs) kvs) (nk o)).isSome = ((valV kvs (nk o)).isSome || isTold rs o)
  | [], kvs, o => by simp [isTold]
  | r :: rs, kvs, o => by
    rw [List.foldl_cons, told_val rs]
    have e : isTold (r :: rs) o = (tells r && decide (r.t = o) || isTold rs o) := rfl
    rw [e]
    cases t : tells r with
    | false => simp
    | true =>
      rw [if_pos rfl, valV_put]
      by_cases h : r.t = o
      · rw [if_pos (by rw [h])]
        simp [h]
      · rw [if_neg (fun z => h (nk_inj z).symm)]
        simp [h]
theorem told_in (rs : List Row) (o : Option Int) : (valV (toldKvs rs) (nk o)).isSome = isTold rs o := by
  unfold toldKvs
  rw [told_val]
  simp [valV_nil]
theorem told_len : ∀ (rs : List Row) (kvs : List (NK × V)), (rs.foldl (fun kvs r => if tells r = true then putK kvs (nk r.t) (.bl true) else kvs) kvs).length ≤ kvs.length + rs.length
  | [], kvs => by simp
  | r :: rs, kvs => by
    rw [List.foldl_cons]
    refine Nat.le_trans (told_len rs _) ?_
    rw [List.length_cons]
    split
    · have := length_putK kvs (nk r.t) (.bl true)
      omega
    · omega
def spTold (K : PySem.W.Frag) (P : Program) (w : World) (C : Addr) : Sp := fun vs H Q _ => ∃ a rs, vs = [.ref a] ∧ Hist K C H a rs ∧ rs.length ≤ 2000 ∧ ∀ D, H D = none → Q (.ref D) (upd H D (DN P w D (toldKvs rs)))
section
variable {P : Program} {w : World} {K : PySem.W.Frag} {mg : Str → Option Value} {base : Heap} {C : Addr}
theorem scTold : FnScope ["asks", "ask"] ["asks"] (defScope sTold) := ⟨rfl, rfl, rfl, by decide +kernel, rfl, by decide +kernel, by decide +kernel⟩
theorem ok_told {f : Addr} {fd : FuncData} (F : Fun K "told_lots" "told_lots" sTold f fd) (A : AskC K mg C) (T : B1 mg) : FnOk P w K mg base CX0 1 f fd ["asks"] (spTold K P w C) := by
  refine F.ok scTold (fun vs H Q E h => ?_) (fun cdv A' outer s H vs Q E hr h => ?_)
  · obtain ⟨a, rs, rfl, _⟩ := h
    rfl
  · obtain ⟨a, rs, rfl, hh, hl, q⟩ := h
    refine ⟨_, (pss_one (ps_ret (pe_dcN (own := [("ask", 1)]) (g := gName 1) (by rfl) scTold.nd (pi_sq (pv 0)) (blkOk_by (own := [("ask", 1)]) (N := ["asks", "ask"]) (sc := defScope sTold) (by decide +kernel)) (fun _ _ _ _ _ => pg_name (i := 1) scTold.nd rfl (Or.inl rfl)) (fun _ _ _ _ _ => pts_one (PW.pt (pw_and (pt_cmpR op_eq (pe_fldK K (pv 1) rfl) pe_str (nomark _)) (pw_and1 (pt_cmpR op_notN (pe_fldK K (pv 1) rfl) pe_non (nomark _)))))) (fun _ _ _ _ _ => pe_fldK K (pv 1) rfl) (fun _ _ _ _ _ => pe_bl)))), ?_⟩
    obtain ⟨ps, sq, h2⟩ := hh.sq
    have nl : (ps.map V.ref).length = rs.length := by rw [List.length_map, h2.1]
    refine ⟨.ref a, rfl, a, ps.map V.ref, rfl, sq, fun J G wk hG D hD => dn_it wk (fun i H' => H' = upd H D (DN P w D (toldKvs (rs.take i)))) rfl (fun i H' _ e => hG _ (by rw [e]; exact same_new hD)) ?_ ?_⟩
    · rintro i x H2 H3 hi rfl ⟨rfl, hx⟩
      have hi2 : i < rs.length := by omega
      have hip : i < ps.length := by rw [h2.1]; exact hi2
      have ex : x = .ref ps[i] := by
        rw [List.getElem?_map, List.getElem?_eq_getElem hip] at hx
        exact (Option.some.inj hx).symm
      subst ex
      have tk : toldKvs (rs.take (i + 1)) = if tells rs[i] = true then putK (toldKvs (rs.take i)) (nk rs[i].t) (.bl true) else toldKvs (rs.take i) := by
        unfold toldKvs
        rw [List.take_add_one, List.getElem?_eq_getElem hi2, List.foldl_append]
        rfl
      have kl : (toldKvs (rs.take i)).length < sizeLine := by
        have := told_len (rs.take i) []
        have z : (rs.take i).length ≤ 2000 := by rw [List.length_take]; omega
        exact Nat.lt_of_le_of_lt (Nat.le_trans this (by simpa using z)) (by decide)
      obtain ⟨dx, ea⟩ := ((h2.2 i ps[i] rs[i] (List.getElem?_eq_getElem hip) (List.getElem?_eq_getElem hi2)).mono (same_new (o := DN P w D (toldKvs (rs.take i))) hD))
      generalize rs[i] = r at tk ea
      refine ⟨rfl, ?_⟩
      refine ⟨.ref ps[i], rfl, ps[i], C, dx, flds r, .str (wd r.g), rfl, ea, A.cl, A.nw, rfl, rfl, r.g, (by cases r.g <;> decide +kernel), ?_⟩
      cases hg : r.g with
      | false =>
        refine iteF' (iteF' ?_)
        rw [tk, if_neg (by unfold tells; rw [hg]; exact fun z => nomatch z)]
      | true =>
        refine iteT' ⟨.ref ps[i], rfl, ps[i], C, dx, flds r, oV r.e, rfl, ea, A.cl, A.ne, rfl, rfl, r.e.isSome, (by cases r.e <;> rfl), ?_⟩
        have te : tells r = r.e.isSome := by unfold tells; rw [hg]; rfl
        cases he : r.e.isSome with
        | false =>
          refine iteF' ?_
          rw [tk, if_neg (by rw [te, he]; exact fun z => nomatch z)]
        | true =>
          refine iteT' ⟨.ref ps[i], rfl, ps[i], C, dx, flds r, oV r.t, rfl, ea, A.cl, A.nt, rfl, _, nk r.t, (nk_v r.t).symm, upd_same, kl, ?_⟩
          rw [upd_upd, tk, if_pos (te.trans he)]
          rfl
    · rintro H2 rfl
      rw [nl, List.take_of_length_le (Nat.le_refl _)]
      exact q D hD
end
def isPart (rs : List Row) (i : Nat) : Bool := match rs[i]? with
  | some r => r.e.isSome || (!r.g && isTold rs (some (i : Int)))
  | none => false
def partsOf (rs : List Row) : List Nat := (List.range rs.length).filter (isPart rs)
def nats (l : List Nat) : List V := l.map fun (i : Nat) => V.int (i : Int)
def spParts (K : PySem.W.Frag) (C : Addr) : Sp := fun vs H Q _ => ∃ a rs, vs = [.ref a] ∧ Hist K C H a rs ∧ rs.length ≤ 2000 ∧ ∀ D H', Same H H' → H D = none → H' D = some (.lst (nats (partsOf rs))) → Q (.ref D) H'
section
variable {P : Program} {w : World} {K : PySem.W.Frag} {mg : Str → Option Value} {base : Heap} {fT fN fP C cB cT : Addr} {dT dN dP : FuncData}
theorem scParts : FnScope ["asks", "told", "at"] ["asks"] (defScope sParts) := ⟨rfl, rfl, rfl, by decide +kernel, rfl, by decide +kernel, by decide +kernel⟩
theorem ok_parts_of {f : Addr} {fd : FuncData} (F : Fun K "parts_of" "parts_of" sParts f fd) (A : AskC K mg C) (T : B1 mg) (gT : mg "told_lots" = some (.ref fT)) (FT : Fun K "told_lots" "told_lots" sTold fT dT) (bT : Binds K dT ["asks"] []) :
    FnOk P w K mg base CX0 2 f fd ["asks"] (spParts K C) := by
  have GT : FnOk P w K mg base CX0 1 fT dT ["asks"] (spTold K P w C) := ok_told FT A T
  refine F.ok scParts (fun vs H Q E h => ?_) (fun cdv A' outer s H vs Q E hr h => ?_)
  · obtain ⟨a, rs, rfl, _⟩ := h
    rfl
  · obtain ⟨a, rs, rfl, hh, hl, q⟩ := h
    have hr1 : Room 1 _ := hr.mono (by decide)
    refine ⟨_, (pss_cons (ps_set (i := 1) scParts.nd rfl (Or.inr rfl) (pe_call GT hr1 (by rfl) gT FT.kp bT .nil pass0 (pa_cons (pv 0) pa_nil)))
(pss_one (ps_ret (pe_lc (own := [("at", 2)]) (g := gName 2) (by rfl) scParts.nd (pi_range1 (by rfl) T.range (pa_cons (pe_callB call_len (by rfl) T.len PySem.boot_len (pa_cons (pv 0) pa_nil)) pa_nil)) (blkOk_by (own := [("at", 2)]) (N := ["asks", "told", "at"]) (sc := defScope sParts) (by decide +kernel)) (fun _ _ _ _ _ => pg_name (i := 2) scParts.nd rfl (Or.inl rfl)) (fun _ _ _ _ _ => pts_one (PW.pt (pw_or (pt_cmpR op_notN (pe_fldK K (pe_ix (ix_seqK K) (pv 0) (pv 2) (fun _ _ => rfl)) rfl) pe_non (nomark _)) (pw_or1 (PW.pt (pw_and (pt_cmpR op_eq (pe_fldK K (pe_ix (ix_seqK K) (pv 0) (pv 2) (fun _ _ => rfl)) rfl) pe_str (nomark _)) (pw_and1 (pt_cmp (pc_ninK P w (pv 2) (pv 1)))))))))) (fun _ _ _ _ _ => pv 2))))), ?_⟩
    refine ⟨.ref a, rfl, a, rs, rfl, hh, hl, fun d hd => ?_⟩
    have s1 := same_new (o := DN P w d (toldKvs rs)) hd
    have h1 := hh.mono s1
    have hk : (upd H d (DN P w d (toldKvs rs))) d = some (DN P w d (toldKvs rs)) := upd_same
    generalize upd H d (DN P w d (toldKvs rs)) = H1 at s1 h1 hk ⊢
    obtain ⟨ps, sq, h2⟩ := h1.sq
    have nl : (ps.map V.ref).length = rs.length := by rw [List.length_map, h2.1]
    refine ⟨.ref a, rfl, .ref a, (ps.map V.ref).length, rfl, sq.len, ((ps.map V.ref).length : Nat), rfl, by omega, by rw [nl]; omega, fun D hD => ?_⟩
    rw [Int.toNat_natCast, nl]
    refine lc_it (walk_range (lo := 0) (n := rs.length)) (fun i H' => H' = upd H1 D (.lst (nats ((List.range i).filter (isPart rs))))) rfl (fun _ _ _ _ => True.intro) ?_ ?_
    · rintro i x H2 H3 hi rfl ⟨rfl, rfl⟩
      have hip : i < ps.length := by rw [h2.1]; exact hi
      obtain ⟨dx, ea⟩ := ((h2.2 i ps[i] rs[i] (List.getElem?_eq_getElem hip) (List.getElem?_eq_getElem hi)).mono (same_new (o := .lst (nats ((List.range i).filter (isPart rs)))) hD))
      have sq2 := Sq.mono (same_new (o := .lst (nats ((List.range i).filter (isPart rs)))) hD) sq
      have hk2 := (same_new (o := .lst (nats ((List.range i).filter (isPart rs)))) hD) _ _ hk
      have at1 : atI (ps.map V.ref) (0 + (i : Int)) = some (.ref ps[i]) := by
        rw [Int.zero_add]
        exact at_nat (by rw [List.getElem?_map, List.getElem?_eq_getElem hip]; rfl)
      have ip : isPart rs i = (rs[i].e.isSome || (!rs[i].g && isTold rs (some (i : Int)))) := by
        unfold isPart
        rw [List.getElem?_eq_getElem hi]
      have nx : nats ((List.range (i + 1)).filter (isPart rs)) = if isPart rs i = true then nats ((List.range i).filter (isPart rs)) ++ [V.int (i : Int)] else nats ((List.range i).filter (isPart rs)) := by
        rw [List.range_succ, List.filter_append]
        cases c : isPart rs i with
        | true => rw [if_pos rfl]; simp [nats, c]
        | false => rw [if_neg (by decide)]; simp [c]
      have al : (nats ((List.range i).filter (isPart rs))).length < sizeLine := by
        have : (nats ((List.range i).filter (isPart rs))).length ≤ i := by
          unfold nats
          rw [List.length_map]
          exact Nat.le_trans (List.length_filter_le _ _) (by simp)
        exact Nat.lt_of_le_of_lt this (Nat.lt_of_lt_of_le (Nat.lt_of_lt_of_le hi hl) (by decide))
      have inT : (valV (toldKvs rs) (some (.inl (0 + (i : Int))))).isSome = isTold rs (some (i : Int)) := by
        rw [Int.zero_add]
        exact told_in rs (some (i : Int))
      generalize rs[i] = r at ip ea
      have isY : isPart rs i = true → upd (upd H1 D (.lst (nats ((List.range i).filter (isPart rs))))) D (.lst (nats ((List.range i).filter (isPart rs)) ++ [V.int (0 + (i : Int))])) = upd H1 D (.lst (nats ((List.range (i + 1)).filter (isPart rs)))) := fun z => by
        rw [upd_upd, nx, if_pos z, Int.zero_add]
      have isN : isPart rs i = false → upd H1 D (.lst (nats ((List.range i).filter (isPart rs)))) = upd H1 D (.lst (nats ((List.range (i + 1)).filter (isPart rs)))) := fun z => by
        rw [nx, if_neg (by rw [z]; decide)]
      refine ⟨rfl, ?_⟩
      refine ⟨.ref a, rfl, .int (0 + (i : Int)), rfl, Sq.ix sq2 at1 ⟨ps[i], C, dx, flds r, oV r.e, rfl, ea, A.cl, A.ne, rfl, rfl, r.e.isSome, (by cases r.e <;> rfl), ?_⟩⟩
      cases he : r.e.isSome with
      | true => exact iteT' (iteT' ⟨_, rfl, _, upd_same, al, isY (by rw [ip, he]; rfl)⟩)
      | false =>
        rw [he, Bool.false_or] at ip
        refine iteF' ⟨.ref a, rfl, .int (0 + (i : Int)), rfl, Sq.ix sq2 at1 ⟨ps[i], C, dx, flds r, .str (wd r.g), rfl, ea, A.cl, A.nw, rfl, rfl, !r.g, (by cases r.g <;> decide +kernel), ?_⟩⟩
        cases hg : r.g with
        | true =>
          rw [hg] at ip
          exact iteF' (iteF' (isN ip))
        | false =>
          rw [hg] at ip
          refine iteT' ⟨_, rfl, .ref d, rfl, d, toldKvs rs, some (.inl (0 + (i : Int))), rfl, .inl hk2, rfl, isTold rs (some (i : Int)), by rw [inT], ?_⟩
          cases ht : isTold rs (some (i : Int)) with
          | true => exact iteT' ⟨_, rfl, _, upd_same, al, isY (ip.trans ht)⟩
          | false => exact iteF' (isN (ip.trans ht))
    · rintro H2 rfl
      exact q D _ (s1.trans (same_new hD)) (s1.free hD) upd_same
/-- what refuses a history, or lets it go on -/
def Looked (K : PySem.W.Frag) (C cB cT : Addr) (v : V) (H : Hp) (E : XK) (go : Addr → List Row → Prop) : Prop := (NoSq K H v ∧ OutF cB [("part", .str "asks")] H E) ∨
  (∃ a xs, ∃ g : V → Bool, v = .ref a ∧ Sq K H a xs ∧ xs.length ≤ 2000 ∧ (∀ x ∈ xs, ∃ t, TyX K H x t ∧ PySem.W.kitOne K t (.ref C) = some (g x)) ∧ (∃ x ∈ xs, g x = false) ∧ OutF cB [("part", .str "asks")] H E) ∨
  ∃ a rs, v = .ref a ∧ Hist K C H a rs ∧ rs.length ≤ 2000 ∧ (∀ r ∈ rs, r.Ok) ∧ (1000 < rs.length → OutF cT [("most", .int 1000), ("what", .str "asks")] H E) ∧
    (rs.length ≤ 1000 → ∀ i, firstBad rs = some i → OutF cB [("part", .int i)] H E) ∧ (rs.length ≤ 1000 → firstBad rs = none → go a rs)
def spPartsD (K : PySem.W.Frag) (C cB cT : Addr) : Sp := fun vs H Q E => ∃ v, vs = [v] ∧ Looked K C cB cT v H E fun _ rs => ∀ p H', Same H H' → H' p = some (.tup (nats (partsOf rs))) → Q (.ref p) H'
theorem Looked.dis {v : V} {H : Hp} {E : XK} {R : Hp → Prop} {go : Addr → List Row → Prop} (h : Looked K C cB cT v H E go) (k : ∀ a rs, v = .ref a → Hist K C H a rs → rs.length ≤ 1000 → (∀ r ∈ rs, r.Ok) → firstBad rs = none → go a rs → ∀ H', Same H H' → R H') :
    (NoSq K H v ∧ OutF cB [("part", .str "asks")] H E) ∨
    (∃ a xs, ∃ g : V → Bool, v = .ref a ∧ Sq K H a xs ∧ xs.length ≤ 2000 ∧ (∀ x ∈ xs, ∃ t, TyX K H x t ∧ PySem.W.kitOne K t (.ref C) = some (g x)) ∧ (∃ x ∈ xs, g x = false) ∧ OutF cB [("part", .str "asks")] H E) ∨
    ∃ a rs, v = .ref a ∧ Hist K C H a rs ∧ rs.length ≤ 2000 ∧ (∀ r ∈ rs, r.Ok) ∧ (1000 < rs.length → OutF cT [("most", .int 1000), ("what", .str "asks")] H E) ∧
      (rs.length ≤ 1000 → ∀ i, firstBad rs = some i → OutF cB [("part", .int i)] H E) ∧ (rs.length ≤ 1000 → firstBad rs = none → ∀ H', Same H H' → R H') := by
  rcases h with h | h | ⟨a, rs, e, hh, hl, ok, q1, q2, q3⟩
  · exact .inl h
  · exact .inr (.inl h)
  · exact .inr (.inr ⟨a, rs, e, hh, hl, ok, q1, q2, fun l z => k a rs e hh l ok z (q3 l z)⟩)
end
end K36
end

section
set_option Elab.async false
set_option linter.all false
set_option maxRecDepth 100000
set_option maxHeartbeats 4000000
/-! zones -/
namespace K36
open PySem L2 KZ
abbrev sZones : Stmt := top 14
section
variable {X : Cx} {o i e f value : Expr} {pos pos' apos cpos : Pos} {td ty tx tv : TE} (P : Program) (w : World)
def tNNewP : TE := fun _ H Q => ∀ p, H p = none → Q (.ref p) (upd H p (DN P w p []))
def tNGetP (td ty : TE) : TE := fun σ H Q => td σ H fun x H1 => ty σ H1 fun y H2 => ∃ a kvs k v, x = .ref a ∧ Rd H2 a (DN P w a kvs) ∧ y = nV k ∧ valV kvs k = some v ∧ Q v H2
def tNGet2P (td ty tx : TE) : TE := fun σ H Q => td σ H fun x H1 => ∃ a kvs, x = .ref a ∧ Rd H1 a (DN P w a kvs) ∧ ty σ H1 fun y H2 => tx σ H2 fun z H3 => ∃ kvs k, Rd H3 a (DN P w a kvs) ∧ y = nV k ∧ Q ((valV kvs k).getD z) H3
def sNPutP (td ty tv : TE) : TS := fun D σ H => tv σ H fun v H1 => td σ H1 fun x H2 => ty σ H2 fun y H3 => ∃ a kvs k, x = .ref a ∧ H3 a = some (DN P w a kvs) ∧ y = nV k ∧ kvs.length < sizeLine ∧ D.nx σ (upd H3 a (DN P w a (putK kvs k v)))
def iNkP (td : TE) : TI := fun σ H R => td σ H fun x H1 => ∃ d o kvs, x = .ref d ∧ H1 d = some (.frz o (DN P w d kvs)) ∧ R (Itn P w d o kvs) H1
theorem pe_nnewK (hP : X.prog = P := by rfl) (hw : X.w = w := by rfl) : PE X (.Dict [] [] pos) (tNNewP P w) := by subst hP hw; exact pe_nnew
theorem pe_ngetK (ho : PE X o td) (hi : PE X i ty) (hs : NoSl i) (hP : X.prog = P := by rfl) (hw : X.w = w := by rfl) : PE X (.Subscript o i pos) (tNGetP P w td ty) := by subst hP hw; exact pe_nget ho hi hs
theorem pe_nget2K (ho : PE X o td) (he : PE X e ty) (hf : PE X f tx) (m : M2 X o "get" apos e f cpos) (hP : X.prog = P := by rfl) (hw : X.w = w := by rfl) : PE X (.Call (.Attribute o "get" apos) [e, f] [] cpos) (tNGet2P P w td ty tx) := by subst hP hw; exact pe_nget2 ho he hf m
theorem ps_nputK (ho : PE X o td) (hi : PE X i ty) (hv : PE X value tv) (hs : swapsWith value (some (.Subscript o i pos')) pos.line X.env = pure false) (hP : X.prog = P := by rfl) (hw : X.w = w := by rfl) : PS X (.Assign [.Subscript o i pos'] value pos) (sNPutP P w td ty tv) := by subst hP hw; exact ps_nput ho hi hv hs
theorem pi_nkK {tg : Expr} (he : PE X e td) (hP : X.prog = P := by rfl) (hw : X.w = w := by rfl) : PI X tg e (iNkP P w td) := by subst hP hw; exact pi_nk he
end
/-! pairs of a lot and a number, in their order -/
abbrev KI : Type := List (Option Int × Int)
def getO (l : KI) (k : Option Int) : Option Int := (l.find? fun p => decide (p.1 = k)).map (·.2)
def setO (l : KI) (k : Option Int) (v : Int) : KI := if (l.any fun p => decide (p.1 = k)) = true then l.map (fun p => if p.1 = k then (p.1, v) else p) else l ++ [(k, v)]
def iv (l : KI) : List (NK × V) := l.map fun p => (nk p.1, V.int p.2)
theorem nk_eq (o u : Option Int) : decide (nk o = nk u) = decide (o = u) := by
  by_cases h : o = u
  · rw [decide_eq_true h, decide_eq_true (by rw [h])]
  · rw [decide_eq_false h, decide_eq_false fun z => h (nk_inj z)]
theorem iv_get (l : KI) (k : Option Int) : valV (iv l) (nk k) = (getO l k).map V.int := by
  unfold valV iv getO
  induction l with
  | nil => rfl
  | cons p r ih =>
    rw [List.map_cons, List.find?_cons, List.find?_cons]
    show Option.map _ (match decide (nk p.1 = nk k) with | true => _ | false => _) = _
    rw [nk_eq]
    cases decide (p.1 = k) with
    | true => rfl
    | false => exact ih
theorem iv_put (l : KI) (k : Option Int) (v : Int) : putK (iv l) (nk k) (.int v) = iv (setO l k v) := by
  have an : ((iv l).any fun kv => decide (kv.1 = nk k)) = l.any fun p => decide (p.1 = k) := by
    unfold iv
    rw [List.any_map]
    congr 1
    funext p
    exact nk_eq p.1 k
  unfold putK setO
  rw [an]
  cases l.any fun p => decide (p.1 = k) with
  | true =>
    rw [if_pos rfl, if_pos rfl]
    unfold iv
    rw [List.map_map, List.map_map]
    refine List.map_congr_left fun p _ => ?_
    show (if nk p.1 = nk k then (nk p.1, V.int v) else (nk p.1, V.int p.2)) = (nk (if p.1 = k then (p.1, v) else p).1, V.int (if p.1 = k then (p.1, v) else p).2)
    by_cases h : p.1 = k
    · rw [if_pos h, if_pos (by rw [h])]
    · rw [if_neg h, if_neg fun z => h (nk_inj z)]
  | false =>
    rw [if_neg (by decide), if_neg (by decide)]
    unfold iv
    rw [List.map_append]
    rfl
theorem setO_len (l : KI) (k : Option Int) (v : Int) : (setO l k v).length ≤ l.length + 1 := by
  unfold setO
  split
  · rw [List.length_map]; omega
  · rw [List.length_append]; simp
theorem iv_getD (l : KI) (k : Option Int) (x : Int) : (valV (iv l) (nk k)).getD (.int x) = V.int ((getO l k).getD x) := by
  rw [iv_get]
  cases getO l k <;> rfl
theorem iv_len (l : KI) : (iv l).length = l.length := by unfold iv; rw [List.length_map]
def max2 (i j : Int) : Int := if j > i then j else i
def min2 (i j : Int) : Int := if j < i then j else i
def lotOf (r : Row) (i : Nat) : Option Int := if r.g = true then r.t else some (i : Int)
def endR (e : KI) (i : Nat) (r : Row) : KI := match r.e with
  | none => e
  | some x => setO e (lotOf r i) (min2 ((getO e (lotOf r i)).getD x) x)
def begR (b : KI) (i : Nat) (r : Row) : KI := setO b (lotOf r i) (max2 ((getO b (lotOf r i)).getD r.b) r.b)
/-- one ask more: ends, begins -/
def stepZ (rs : List Row) (st : KI × KI) (i : Nat) : KI × KI := match rs[i]? with
  | none => st
  | some r => (endR st.1 i r, begR st.2 i r)
def initZ (rs : List Row) : KI × KI := if isTold rs none = true then ([(none, -1)], [(none, -1)]) else ([], [])
def foldZ (rs : List Row) (l : List Nat) : KI × KI := l.foldl (stepZ rs) (initZ rs)
theorem stepZ_none {rs : List Row} {st : KI × KI} {i : Nat} (h : rs[i]? = none) : stepZ rs st i = st := by unfold stepZ; rw [h]
theorem stepZ_some {rs : List Row} {st : KI × KI} {i : Nat} {r : Row} (h : rs[i]? = some r) : stepZ rs st i = (endR st.1 i r, begR st.2 i r) := by unfold stepZ; rw [h]
theorem getO_set (l : KI) (k j : Option Int) (v : Int) : getO (setO l k v) j = if j = k then some v else getO l j := by
  have h := valV_put (iv l) (nk k) (nk j) (.int v)
  rw [iv_put, iv_get, iv_get] at h
  have hj : (nk j = nk k) ↔ (j = k) := ⟨nk_inj, fun z => by rw [z]⟩
  by_cases e : j = k
  · rw [if_pos e]
    rw [if_pos (hj.mpr e)] at h
    cases g : getO (setO l k v) j with
    | none => rw [g] at h; cases h
    | some x => rw [g] at h; cases h; rfl
  · rw [if_neg e]
    rw [if_neg fun z => e (hj.mp z)] at h
    cases g : getO (setO l k v) j with
    | none =>
      rw [g] at h
      cases g2 : getO l j with
      | none => rfl
      | some y => rw [g2] at h; cases h
    | some x =>
      rw [g] at h
      cases g2 : getO l j with
      | none => rw [g2] at h; cases h
      | some y => rw [g2] at h; cases h; rfl
theorem foldZ_snoc (rs : List Row) (l : List Nat) (i : Nat) : foldZ rs (l ++ [i]) = stepZ rs (foldZ rs l) i := by
  unfold foldZ
  rw [List.foldl_append]
  rfl
theorem initZ_len (rs : List Row) : (initZ rs).1.length ≤ 1 ∧ (initZ rs).2.length ≤ 1 := by
  unfold initZ
  split <;> exact ⟨by simp, by simp⟩
theorem stepZ_len (rs : List Row) (st : KI × KI) (i : Nat) : (stepZ rs st i).1.length ≤ st.1.length + 1 ∧ (stepZ rs st i).2.length ≤ st.2.length + 1 := by
  cases h : rs[i]? with
  | none => rw [stepZ_none h]; exact ⟨by omega, by omega⟩
  | some r =>
    rw [stepZ_some h]
    refine ⟨?_, setO_len _ _ _⟩
    show (endR st.1 i r).length ≤ _
    unfold endR
    cases r.e with
    | none => exact Nat.le_succ _
    | some e => exact setO_len _ _ _
theorem foldZ_len (rs : List Row) : ∀ (l : List Nat) (st : KI × KI), (l.foldl (stepZ rs) st).1.length ≤ st.1.length + l.length ∧ (l.foldl (stepZ rs) st).2.length ≤ st.2.length + l.length
  | [], st => ⟨by simp, by simp⟩
  | i :: l, st => by
    rw [List.foldl_cons]
    have h := foldZ_len rs l (stepZ rs st i)
    have h2 := stepZ_len rs st i
    rw [List.length_cons]
    exact ⟨by omega, by omega⟩
theorem foldZ_len1 (rs : List Row) (l : List Nat) : (foldZ rs l).1.length ≤ 1 + l.length ∧ (foldZ rs l).2.length ≤ 1 + l.length := by
  have h := foldZ_len rs l (initZ rs)
  have h2 := initZ_len rs
  exact ⟨Nat.le_trans h.1 (by omega), Nat.le_trans h.2 (by omega)⟩
theorem foldZ_ends (rs : List Row) (k : Option Int) : ∀ (l : List Nat) (st : KI × KI), (getO (l.foldl (stepZ rs) st).1 k).isSome = true ↔ ((getO st.1 k).isSome = true ∨ ∃ i ∈ l, ∃ r, rs[i]? = some r ∧ r.e.isSome = true ∧ lotOf r i = k)
  | [], st => ⟨fun h => .inl h, fun h => h.elim id fun ⟨i, m, _⟩ => by cases m⟩
  | i :: l, st => by
    rw [List.foldl_cons, foldZ_ends rs k l]
    have one : (getO (stepZ rs st i).1 k).isSome = true ↔ ((getO st.1 k).isSome = true ∨ ∃ r, rs[i]? = some r ∧ r.e.isSome = true ∧ lotOf r i = k) := by
      cases h : rs[i]? with
      | none =>
        rw [stepZ_none h]
        exact ⟨.inl, fun h => h.elim id fun ⟨r, z, _⟩ => by cases z⟩
      | some r =>
        rw [stepZ_some h]
        show (getO (endR st.1 i r) k).isSome = true ↔ _
        unfold endR
        cases he : r.e with
        | none => exact ⟨.inl, fun h => h.elim id fun ⟨r', z, z2, _⟩ => by cases z; rw [he] at z2; cases z2⟩
        | some e =>
          show (getO (setO st.1 _ _) k).isSome = true ↔ _
          rw [getO_set]
          by_cases hk : k = lotOf r i
          · rw [if_pos hk]
            exact ⟨fun _ => .inr ⟨r, rfl, by rw [he]; rfl, hk.symm⟩, fun _ => rfl⟩
          · rw [if_neg hk]
            exact ⟨.inl, fun h => h.elim id fun ⟨r', z, _, z2⟩ => by cases z; exact absurd z2.symm hk⟩
    rw [one]
    constructor
    · rintro ((h | ⟨r, h⟩) | ⟨j, m, h⟩)
      · exact .inl h
      · exact .inr ⟨i, List.mem_cons_self, r, h⟩
      · exact .inr ⟨j, List.mem_cons_of_mem _ m, h⟩
    · rintro (h | ⟨j, m, r, h⟩)
      · exact .inl (.inl h)
      · rcases List.mem_cons.mp m with rfl | m
        · exact .inl (.inr ⟨r, h⟩)
        · exact .inr ⟨j, m, r, h⟩
theorem foldZ_begins (rs : List Row) (k : Option Int) : ∀ (l : List Nat) (st : KI × KI), (getO (l.foldl (stepZ rs) st).2 k).isSome = true ↔ ((getO st.2 k).isSome = true ∨ ∃ i ∈ l, ∃ r, rs[i]? = some r ∧ lotOf r i = k)
  | [], st => ⟨fun h => .inl h, fun h => h.elim id fun ⟨i, m, _⟩ => by cases m⟩
  | i :: l, st => by
    rw [List.foldl_cons, foldZ_begins rs k l]
    have one : (getO (stepZ rs st i).2 k).isSome = true ↔ ((getO st.2 k).isSome = true ∨ ∃ r, rs[i]? = some r ∧ lotOf r i = k) := by
      cases h : rs[i]? with
      | none =>
        rw [stepZ_none h]
        exact ⟨.inl, fun h => h.elim id fun ⟨r, z, _⟩ => by cases z⟩
      | some r =>
        rw [stepZ_some h]
        show (getO (begR st.2 i r) k).isSome = true ↔ _
        unfold begR
        rw [getO_set]
        by_cases hk : k = lotOf r i
        · rw [if_pos hk]
          exact ⟨fun _ => .inr ⟨r, rfl, hk.symm⟩, fun _ => rfl⟩
        · rw [if_neg hk]
          exact ⟨.inl, fun h => h.elim id fun ⟨r', z, z2⟩ => by cases z; exact absurd z2.symm hk⟩
    rw [one]
    constructor
    · rintro ((h | ⟨r, h⟩) | ⟨j, m, h⟩)
      · exact .inl h
      · exact .inr ⟨i, List.mem_cons_self, r, h⟩
      · exact .inr ⟨j, List.mem_cons_of_mem _ m, h⟩
    · rintro (h | ⟨j, m, r, h⟩)
      · exact .inl (.inl h)
      · rcases List.mem_cons.mp m with rfl | m
        · exact .inl (.inr ⟨r, h⟩)
        · exact .inr ⟨j, m, r, h⟩
theorem initZ_get (rs : List Row) (k : Option Int) : ((getO (initZ rs).1 k).isSome = true ↔ (getO (initZ rs).2 k).isSome = true) := by
  unfold initZ
  by_cases h : isTold rs none = true
  · rw [if_pos h]
  · rw [if_neg h]
theorem mem_parts {rs : List Row} {i : Nat} : i ∈ partsOf rs ↔ ∃ r, rs[i]? = some r ∧ (r.e.isSome || (!r.g && isTold rs (some (i : Int)))) = true := by
  unfold partsOf
  rw [List.mem_filter, List.mem_range]
  unfold isPart
  constructor
  · rintro ⟨h, p⟩
    rw [List.getElem?_eq_getElem h] at p
    exact ⟨_, List.getElem?_eq_getElem h, p⟩
  · rintro ⟨r, e, p⟩
    rw [e]
    exact ⟨(List.getElem?_eq_some_iff.mp e).1, p⟩
/-- each lot that has a begin has an end -/
theorem ends_there {rs : List Row} {k : Option Int} (h : (getO (foldZ rs (partsOf rs)).2 k).isSome = true) : (getO (foldZ rs (partsOf rs)).1 k).isSome = true := by
  unfold foldZ at h ⊢
  rw [foldZ_begins] at h
  rw [foldZ_ends]
  rcases h with h | ⟨i, m, r, e, lk⟩
  · exact .inl ((initZ_get rs k).mpr h)
  · refine .inr ?_
    obtain ⟨r', e', p⟩ := mem_parts.mp m
    rw [e] at e'
    cases e'
    by_cases he : r.e.isSome = true
    · exact ⟨i, m, r, e, he, lk⟩
    · rw [Bool.not_eq_true] at he
      rw [he, Bool.false_or, Bool.and_eq_true] at p
      obtain ⟨ng, tl⟩ := p
      have g0 : r.g = false := by simpa using ng
      unfold isTold at tl
      obtain ⟨r2, m2, t2⟩ := List.any_eq_true.mp tl
      obtain ⟨j, hj, ej⟩ := List.mem_iff_getElem.mp m2
      rw [Bool.and_eq_true] at t2
      obtain ⟨t3, t4⟩ := t2
      unfold tells at t3
      rw [Bool.and_eq_true] at t3
      have ej2 : rs[j]? = some r2 := by rw [List.getElem?_eq_getElem hj, ej]
      refine ⟨j, mem_parts.mpr ⟨r2, ej2, by rw [t3.2]; rfl⟩, r2, ej2, t3.2, ?_⟩
      rw [← lk]
      unfold lotOf
      rw [if_pos t3.1, g0, if_neg (by decide)]
      exact of_decide_eq_true t4
/-- the lots, their least ends, their greatest begins -/
def putsZ (b : KI) : List Int := PySem.W.sortI ((b.map (·.1)).filterMap id)
def lotsZ (b : KI) : List (Option Int) := if (getO b none).isSome = true then none :: (putsZ b).map some else (putsZ b).map some
def zoneZ (st : KI × KI) (k : Option Int) : Option Int × Int × Int := (k, (getO st.1 k).getD 0, (getO st.2 k).getD 0)
def zonesOf (rs : List Row) : List (Option Int × Int × Int) := (lotsZ (foldZ rs (partsOf rs)).2).map (zoneZ (foldZ rs (partsOf rs)))
theorem getO_mem {b : KI} {k : Option Int} (h : k ∈ b.map (·.1)) : (getO b k).isSome = true := by
  unfold getO
  obtain ⟨p, m, e⟩ := List.mem_map.mp h
  rw [Option.isSome_map, List.find?_isSome]
  exact ⟨p, m, decide_eq_true e⟩
theorem lots_there {b : KI} {k : Option Int} (h : k ∈ lotsZ b) : (getO b k).isSome = true := by
  have put : ∀ k, k ∈ (putsZ b).map some → (getO b k).isSome = true := fun k m => by
    obtain ⟨x, hx, rfl⟩ := List.mem_map.mp m
    have := (PySem.W.sortI_perm _).mem_iff.mp hx
    obtain ⟨o, mo, eo⟩ := List.mem_filterMap.mp this
    cases eo
    exact getO_mem mo
  unfold lotsZ at h
  split at h
  · rcases List.mem_cons.mp h with rfl | h
    · assumption
    · exact put _ h
  · exact put _ h
section
variable {P : Program} {w : World} {K : PySem.W.Frag} {mg : Str → Option Value} {base : Heap} {fT fN fP C cB cT : Addr} {dT dN dP : FuncData}
theorem scZones : FnScope ["asks", "ends", "begins", "at", "ask", "lot", "puts", "lots"] ["asks"] (defScope sZones) := ⟨rfl, rfl, rfl, by decide +kernel, rfl, by decide +kernel, by decide +kernel⟩
/-- the zones at p -/
def ZonesAt (H : Hp) (p : Addr) (zs : List (Option Int × Int × Int)) : Prop := ∃ qs : List Addr, H p = some (.tup (qs.map V.ref)) ∧ qs.length = zs.length ∧ ∀ (i : Nat) q z, qs[i]? = some q → zs[i]? = some z → H q = some (.tup [oV z.1, .int z.2.1, .int z.2.2])
def spZones (K : PySem.W.Frag) (C cB cT : Addr) : Sp := fun vs H Q E => ∃ v, vs = [v] ∧ Looked K C cB cT v H E fun _ rs => ∀ p H', Same H H' → ZonesAt H' p (zonesOf rs) → Q (.ref p) H'
structure ZS (P : Program) (w : World) (De Db D : Addr) (H1 : Hp) (rs : List Row) (st : KI × KI) (H : Hp) : Prop where
  e : H De = some (DN P w De (iv st.1))
  b : H Db = some (DN P w Db (iv st.2))
  d : H D = some (.lst (nats (partsOf rs)))
  s : Same H1 H
theorem lot_val (A : AskC K mg C) {σ : L2.St} {H : Hp} {p : Addr} {r : Row} {at_ : Nat} {Q : VK} (h3 : σ[3]? = some (some (.int at_))) (h4 : σ[4]? = some (some (.ref p))) (ha : AskAt C H p r) (q : Q (oV (lotOf r at_)) H) :
    tIf (tTest (tOp rEq (tFld K (tVar 4) "word") (tC (.str "put")))) (tVar 3) (tFld K (tVar 4) "told") σ H Q := by
  obtain ⟨dx, ea⟩ := ha
  refine ⟨.ref p, h4, p, C, dx, flds r, .str (wd r.g), rfl, ea, A.cl, A.nw, rfl, rfl, !r.g, (by cases r.g <;> decide +kernel), ?_⟩
  unfold lotOf at q
  cases hg : r.g with
  | true =>
    rw [hg, if_pos rfl] at q
    exact iteF' ⟨.ref p, h4, p, C, dx, flds r, oV r.t, rfl, ea, A.cl, A.nt, rfl, q⟩
  | false =>
    rw [hg, if_neg (by decide)] at q
    exact iteT' ⟨_, h3, q⟩
theorem walk_nk {P : Program} {w : World} {d : Addr} {o : Obj} {kvs : List (NK × V)} : Walk (KZ.Itn P w d o kvs) kvs.length (fun H => H d = some (.frz o (DN P w d kvs))) (fun i H x H' => H' = H ∧ ∃ k v, kvs[i]? = some (k, v) ∧ x = nV k) :=
  ⟨fun _ _ hi q => ⟨q, hi⟩, fun _ q => ⟨q, Nat.le_refl _⟩, fun _ _ _ _ _ _ y => y⟩
def soms (b : KI) : List Int := (b.map (·.1)).filterMap id
theorem putsZ_len (b : KI) : (putsZ b).length ≤ b.length := by
  unfold putsZ
  rw [(PySem.W.sortI_perm _).length_eq]
  refine Nat.le_trans (List.length_filterMap_le _ _) ?_
  rw [List.length_map]
  exact Nat.le_refl _
theorem lotsZ_len (b : KI) : (lotsZ b).length ≤ b.length + 1 := by
  have := putsZ_len b
  unfold lotsZ
  split
  · rw [List.length_cons, List.length_map]; omega
  · rw [List.length_map]; omega
theorem lots_val {σ : L2.St} {H : Hp} {Db M : Addr} {b : KI} {Q : VK} (h2 : σ[2]? = some (some (.ref Db))) (h6 : σ[6]? = some (some (.ref M))) (hl : b.length ≤ 1001) (hb : H Db = some (DN P w Db (iv b))) (hm : H M = some (.lst ((putsZ b).map V.int))) (q : ∀ L H', Same H H' → H' L = some (.lst ((lotsZ b).map oV)) → Q (.ref L) H') :
    tIf (tB (tNInP P w (tC .non) (tVar 2))) (tLst (tCons (tC .non) (StX.tStar K (tVar 6) tNil))) (tVar 6) σ H Q := by
  refine ⟨.ref Db, h2, Db, iv b, none, rfl, .inl hb, rfl, (getO b none).isSome, (by rw [show (none : NK) = nk none from rfl, iv_get]; cases getO b none <;> rfl), ?_⟩
  have mm : ((putsZ b).map some).map oV = (putsZ b).map V.int := by
    rw [List.map_map]
    rfl
  unfold lotsZ at q
  cases hn : (getO b none).isSome with
  | true =>
    rw [hn, if_pos rfl] at q
    have pl := putsZ_len b
    refine iteT' ⟨.ref M, h6, M, _, rfl, .inr (SqL.of hm), ?_, fun L hL => q L _ (same_new hL) ?_⟩
    · rw [List.append_nil, List.length_cons, List.length_map]
      exact Nat.le_trans (show _ ≤ 1002 by omega) (by decide)
    · rw [upd_same, List.append_nil, List.map_cons, mm]
      rfl
  | false =>
    rw [hn, if_neg (by decide), mm] at q
    exact iteF' ⟨_, h6, q M H (Same.refl H) hm⟩
theorem get_val {l : KI} {k : Option Int} (h : (getO l k).isSome = true) : valV (iv l) (nk k) = some (.int ((getO l k).getD 0)) := by
  rw [iv_get]
  cases g : getO l k with
  | none => rw [g] at h; cases h
  | some x => rfl
theorem ite_nx {s1 : TS} {D : Ends} {σ : L2.St} {H : Hp} {b : Bool} (I : Hp → Prop) (rest : ∀ H', I H' → D.nx σ H') (h1 : b = true → (∀ H', I H' → D.nx σ H') → s1 D σ H) (h0 : b = false → I H) : if b = true then s1 D σ H else tNext D σ H := by
  cases b with
  | true => rw [if_pos rfl]; exact h1 rfl rest
  | false => rw [if_neg (by decide)]; exact rest H (h0 rfl)
theorem ok_zones {f : Addr} {fd : FuncData} (F : Fun K "zones" "zones" sZones f fd) (A : AskC K mg C) (T : B1 mg) (gN : mg "need_asks" = some (.ref fN)) (GN : FnOk P w K mg base (L2.CX P w) 7 fN dN ["asks"] (spNeed K C cB cT)) (FN : Fun K "need_asks" "need_asks" sNeed fN dN) (bN : Binds K dN ["asks"] [])
    (gT : mg "told_lots" = some (.ref fT)) (FT : Fun K "told_lots" "told_lots" sTold fT dT) (bT : Binds K dT ["asks"] []) (gP : mg "parts_of" = some (.ref fP)) (FP : Fun K "parts_of" "parts_of" sParts fP dP) (bP : Binds K dP ["asks"] []) : FnOk P w K mg base (L2.CX P w) 8 f fd ["asks"] (spZones K C cB cT) := by
  have GT : FnOk P w K mg base CX0 1 fT dT ["asks"] (spTold K P w C) := ok_told FT A T
  have GP : FnOk P w K mg base CX0 2 fP dP ["asks"] (spParts K C) := ok_parts_of FP A T gT FT bT
  refine F.okX scZones (fun vs H Q E h => ?_) (fun cdv A' outer s H vs Q E hr h => ?_)
  · obtain ⟨v, rfl, _⟩ := h
    rfl
  · obtain ⟨v, rfl, h⟩ := h
    have hr7 : Room 7 _ := hr
    have hr2 : Room 2 _ := hr.mono (by decide)
    have hr1 : Room 1 _ := hr.mono (by decide)
    refine ⟨_, (pss_cons (ps_expr (pe_call GN hr7 (by rfl) gN FN.kp bN .nil (passes_call (takes_of rfl rfl rfl rfl) fun _ _ _ _ z => z) (pa_cons (pv 0) pa_nil)))
(pss_cons (ps_set (i := 1) scZones.nd rfl (Or.inr rfl) (pe_nnewK P w))
(pss_cons (ps_set (i := 2) scZones.nd rfl (Or.inr rfl) (pe_nnewK P w))
(pss_cons (ps_if (pt_cmp (pc_ninK P w pe_non (pe_call GT hr1 (by rfl) gT FT.kp bT .nil pass0 (pa_cons (pv 0) pa_nil))))
(pss_cons (ps_nputK P w (pv 1) pe_non (pe_un un_neg pe_int) rfl)
(pss_one (ps_nputK P w (pv 2) pe_non (pe_un un_neg pe_int) rfl)))
pss_nil)
(pss_cons (ps_for (passes_of rfl) rfl (pi_list (pe_call GP hr2 (by rfl) gP FP.kp bP .nil pass0 (pa_cons (pv 0) pa_nil))) (pg_name (i := 3) scZones.nd rfl (Or.inl rfl))
(pss_cons (ps_set (i := 4) scZones.nd rfl (Or.inl rfl) (pe_ix (ix_seqK K) (pv 0) (pv 3) (fun _ _ => rfl)))
(pss_cons (ps_set (i := 5) scZones.nd rfl (Or.inl rfl) (pe_ifExp (pt_cmpR op_eq (pe_fldK K (pv 4) rfl) pe_str (nomark _)) (pv 3) (pe_fldK K (pv 4) rfl)))
(pss_cons (ps_nputK P w (pv 2) (pv 5) (pe_callB (call_max2 rfl) (by rfl) T.max (by decide +kernel) (pa_cons (pe_nget2K P w (pv 2) (pv 5) (pe_fldK K (pv 4) rfl) ⟨rfl, rfl, rfl, rfl⟩) (pa_cons (pe_fldK K (pv 4) rfl) pa_nil))) rfl)
(pss_one (ps_if (pt_cmpR op_notN (pe_fldK K (pv 4) rfl) pe_non (nomark _))
(pss_one (ps_nputK P w (pv 1) (pv 5) (pe_callB (call_min2 rfl) (by rfl) T.min (by decide +kernel) (pa_cons (pe_nget2K P w (pv 1) (pv 5) (pe_fldK K (pv 4) rfl) ⟨rfl, rfl, rfl, rfl⟩) (pa_cons (pe_fldK K (pv 4) rfl) pa_nil))) rfl))
pss_nil))))))
(pss_cons (ps_set (i := 6) scZones.nd rfl (Or.inl rfl) (pe_callB cr_sortedI (by rfl) T.sorted (by decide +kernel) (pa_cons (pe_lock (pe_lc (own := [("lot", 5)]) (g := gName 5) (by rfl) scZones.nd (pi_nkK P w (pv 2)) (blkOk_by (own := [("lot", 5)]) (N := ["asks", "ends", "begins", "at", "ask", "lot", "puts", "lots"]) (sc := defScope sZones) (by decide +kernel)) (fun _ _ _ _ _ => pg_name (i := 5) scZones.nd rfl (Or.inl rfl)) (fun _ _ _ _ _ => pts_one (pt_cmpR op_notN (pv 5) pe_non (nomark _))) (fun _ _ _ _ _ => pv 5))) pa_nil)))
(pss_cons (ps_set (i := 7) scZones.nd rfl (Or.inl rfl) (pe_ifExp (pt_cmp (pc_ninK P w pe_non (pv 2))) (pe_lst (pa_cons pe_non (StX.pa_star (pv 6) pa_nil))) (pv 6)))
(pss_one (ps_ret (pe_callTy call_tuple_of (by rfl) T.tuple (by decide +kernel) (pa_cons (pe_lc (own := [("lot", 5)]) (g := gName 5) (tt := tYes) (by rfl) scZones.nd (pi_list (pv 7)) (blkOk_by (own := [("lot", 5)]) (N := ["asks", "ends", "begins", "at", "ask", "lot", "puts", "lots"]) (sc := defScope sZones) (by decide +kernel)) (fun _ _ _ _ _ => pg_name (i := 5) scZones.nd rfl (Or.inl rfl)) (fun _ _ _ _ _ => pts_nil) (fun _ _ _ _ _ => pe_tup (pa_cons (pv 5) (pa_cons (pe_ngetK P w (pv 1) (pv 5) (fun _ _ => rfl)) (pa_cons (pe_ngetK P w (pv 2) (pv 5) (fun _ _ => rfl)) pa_nil))))) pa_nil))))))))))), ?_⟩
    refine ⟨v, rfl, v, rfl, h.dis fun a rs e hh hl ok z q H1 s1 => ?_⟩
    subst e
    have hh1 := hh.mono s1
    refine fun De hDe Db hDb => ?_
    have ne : Db ≠ De := fun z => by rw [z, upd_same] at hDb; cases hDb
    have hb1 : H1 Db = none := by rw [upd_ne ne] at hDb; exact hDb
    have s2 : Same H1 (upd (upd H1 De (DN P w De [])) Db (DN P w Db [])) := (same_new hDe).trans (same_new hDb)
    refine ⟨.ref a, rfl, a, rs, rfl, hh1.mono s2, by omega, fun T hT => ⟨T, toldKvs rs, none, rfl, .inl upd_same, rfl, isTold rs none, (by rw [← told_in]; rfl), ?_⟩⟩
    have hd0 : Same (upd (upd H1 De (DN P w De [])) Db (DN P w Db [])) (upd (upd (upd H1 De (DN P w De [])) Db (DN P w Db [])) T (DN P w T (toldKvs rs))) := same_new hT
    have se : upd (upd (upd H1 De (DN P w De [])) Db (DN P w Db [])) T (DN P w T (toldKvs rs)) De = some (DN P w De (iv [])) := hd0 _ _ (by rw [upd_ne ne.symm, upd_same]; rfl)
    have sb : upd (upd (upd H1 De (DN P w De [])) Db (DN P w Db [])) T (DN P w T (toldKvs rs)) Db = some (DN P w Db (iv [])) := hd0 _ _ (by rw [upd_same]; rfl)
    have s3 := s2.trans hd0
    generalize upd (upd (upd H1 De (DN P w De [])) Db (DN P w Db [])) T (DN P w T (toldKvs rs)) = H2 at se sb s3 ⊢
    refine ite_nx (fun H3 => H3 De = some (DN P w De (iv (initZ rs).1)) ∧ H3 Db = some (DN P w Db (iv (initZ rs).2)) ∧ Same H1 H3) (fun H3 h3 => ?_) (fun tl rest => ?_) (fun tl => ?_)
    rotate_left
    · have i0 : initZ rs = ([(none, -1)], [(none, -1)]) := by unfold initZ; rw [if_pos tl]
      rw [i0] at rest
      refine ⟨_, rfl, .ref De, rfl, De, [], none, rfl, se, rfl, by decide, ?_⟩
      refine ⟨_, rfl, .ref Db, rfl, Db, [], none, rfl, (upd_ne ne).trans sb, rfl, by decide, rest _ ⟨?_, upd_same, ?_⟩⟩
      · rw [upd_ne ne.symm]
        exact upd_same
      · exact fun b o e => by
          have b1 : b ≠ De := ne_of_none e hDe
          have b2 : b ≠ Db := ne_of_none e hb1
          rw [upd_ne b2, upd_ne b1]
          exact s3 b o e
    · have i0 : initZ rs = ([], []) := by unfold initZ; rw [tl]; rfl
      rw [i0]
      exact ⟨se, sb, s3⟩
    obtain ⟨he, hb, s4⟩ := h3
    refine ⟨.ref a, rfl, a, rs, rfl, hh1.mono s4, by omega, fun D H4 s5 nD hD => ⟨D, rfl, ⟨_, SqL.of hD⟩, ?_⟩⟩
    have neD1 : De ≠ D := ne_of_none he nD
    have neD2 : Db ≠ D := ne_of_none hb nD
    have z0 : ZS P w De Db D H1 rs (foldZ rs ((partsOf rs).take 0)) H4 := ⟨s5 _ _ he, s5 _ _ hb, hD, s4.trans s5⟩
    refine for_it (walk_list (K := K) (a := D) (xs := nats (partsOf rs))) (fun i σ H' => ∃ x3 x4 x5, σ = [some (.ref a), some (.ref De), some (.ref Db), x3, x4, x5, none, none] ∧ ZS P w De Db D H1 rs (foldZ rs ((partsOf rs).take i)) H') ⟨_, _, _, rfl, z0⟩ (fun i σ H' _ ⟨_, _, _, _, z⟩ => SqL.of z.d) ?_ ?_
    · rintro i x σ H5 H6 hi ⟨x3, x4, x5, rfl, zs⟩ ⟨rfl, hx⟩
      have hi2 : i < (partsOf rs).length := by
        unfold nats at hi
        rw [List.length_map] at hi
        exact hi
      have ex : x = .int ((partsOf rs)[i] : Nat) := by
        unfold nats at hx
        rw [List.getElem?_map, List.getElem?_eq_getElem hi2] at hx
        exact (Option.some.inj hx).symm
      subst ex
      have tk : foldZ rs ((partsOf rs).take (i + 1)) = stepZ rs (foldZ rs ((partsOf rs).take i)) (partsOf rs)[i] := by
        rw [List.take_add_one, List.getElem?_eq_getElem hi2]
        exact foldZ_snoc rs _ _
      have ln : ((partsOf rs).take i).length ≤ 1000 := by
        have h1 : (partsOf rs).length ≤ rs.length := by
          unfold partsOf
          exact Nat.le_trans (List.length_filter_le _ _) (by simp)
        rw [List.length_take]
        omega
      have l1 := foldZ_len1 rs ((partsOf rs).take i)
      obtain ⟨r, er, _⟩ := mem_parts.mp (List.getElem_mem hi2)
      rw [tk, stepZ_some er]
      generalize (partsOf rs)[i] = at_ at er ⊢
      generalize foldZ rs ((partsOf rs).take i) = st at zs l1 ⊢
      obtain ⟨ps, sq, h2⟩ := hh1.sq
      have hip : at_ < ps.length := by rw [h2.1]; exact (List.getElem?_eq_some_iff.mp er).1
      have ep : ps[at_]? = some ps[at_] := List.getElem?_eq_getElem hip
      generalize ps[at_] = p at ep
      have at1 : atI (ps.map V.ref) (at_ : Int) = some (.ref p) := at_nat (by rw [List.getElem?_map, ep]; rfl)
      have ask := (h2.2 at_ p r ep er).mono zs.s
      refine ⟨.ref a, rfl, .int at_, rfl, Sq.ix (Sq.mono zs.s sq) at1 (lot_val A rfl rfl ask ?_)⟩
      obtain ⟨dx, ea⟩ := ask
      have nb : ∀ l : KI, l.length ≤ 1 + ((partsOf rs).take i).length → (iv l).length < sizeLine := fun l h => by
        rw [iv_len]
        exact Nat.lt_of_le_of_lt (Nat.le_trans h (show _ ≤ 1001 by omega)) (by decide)
      refine ⟨.ref Db, rfl, Db, iv st.2, rfl, .inl zs.b, oV (lotOf r at_), rfl, .ref p, rfl, p, C, dx, flds r, .int r.b, rfl, ea, A.cl, A.nb, rfl, iv st.2, nk (lotOf r at_), .inl zs.b, (nk_v _).symm, .ref p, rfl, p, C, dx, flds r, .int r.b, rfl, ea, A.cl, A.nb, rfl, (getO st.2 (lotOf r at_)).getD r.b, r.b, by rw [iv_getD], ?_⟩
      refine ⟨.ref Db, rfl, _, rfl, Db, iv st.2, nk (lotOf r at_), rfl, zs.b, (nk_v _).symm, nb _ l1.2, ?_⟩
      have pDe : H1 De = none := hDe
      have b1 : begR st.2 at_ r = setO st.2 (lotOf r at_) (max2 ((getO st.2 (lotOf r at_)).getD r.b) r.b) := rfl
      have pu : putK (iv st.2) (nk (lotOf r at_)) (.int (if r.b > (getO st.2 (lotOf r at_)).getD r.b then r.b else (getO st.2 (lotOf r at_)).getD r.b)) = iv (begR st.2 at_ r) := by
        rw [iv_put, b1]
        rfl
      rw [pu]
      have z1 : ZS P w De Db D H1 rs (st.1, begR st.2 at_ r) (upd H6 Db (DN P w Db (iv (begR st.2 at_ r)))) := by
        refine ⟨?_, upd_same, ?_, fun b o e => ?_⟩
        · rw [upd_ne ne.symm]; exact zs.e
        · rw [upd_ne neD2.symm]; exact zs.d
        · rw [upd_ne (ne_of_none e hb1)]; exact zs.s b o e
      have ea : AskAt C (upd H6 Db (DN P w Db (iv (begR st.2 at_ r)))) p r := by
        have : AskAt C H1 p r := h2.2 at_ p r ep er
        exact this.mono z1.s
      obtain ⟨dx, ea⟩ := ea
      generalize upd H6 Db (DN P w Db (iv (begR st.2 at_ r))) = H7 at z1 ea ⊢
      refine ⟨.ref p, rfl, p, C, dx, flds r, oV r.e, rfl, ea, A.cl, A.ne, rfl, rfl, r.e.isSome, (by cases r.e <;> rfl), ?_⟩
      have e1 : endR st.1 at_ r = match r.e with
        | none => st.1
        | some x => setO st.1 (lotOf r at_) (min2 ((getO st.1 (lotOf r at_)).getD x) x) := rfl
      cases he : r.e with
      | none =>
        rw [he] at e1
        rw [e1]
        exact iteF' ⟨_, _, _, rfl, z1⟩
      | some x =>
        rw [he] at e1
        rw [e1]
        refine iteT' ?_
        refine ⟨.ref De, rfl, De, iv st.1, rfl, .inl z1.e, oV (lotOf r at_), rfl, .ref p, rfl, p, C, dx, flds r, .int x, rfl, ea, A.cl, A.ne, (by unfold flds; rw [he]; rfl), iv st.1, nk (lotOf r at_), .inl z1.e, (nk_v _).symm, .ref p, rfl, p, C, dx, flds r, .int x, rfl, ea, A.cl, A.ne, (by unfold flds; rw [he]; rfl), (getO st.1 (lotOf r at_)).getD x, x, by rw [iv_getD], ?_⟩
        refine ⟨.ref De, rfl, _, rfl, De, iv st.1, nk (lotOf r at_), rfl, z1.e, (nk_v _).symm, nb _ l1.1, ?_⟩
        have pu : putK (iv st.1) (nk (lotOf r at_)) (.int (if x < (getO st.1 (lotOf r at_)).getD x then x else (getO st.1 (lotOf r at_)).getD x)) = iv (setO st.1 (lotOf r at_) (min2 ((getO st.1 (lotOf r at_)).getD x) x)) := by
          rw [iv_put]
          rfl
        rw [pu]
        refine ⟨_, _, _, rfl, upd_same, ?_, ?_, fun b o e => ?_⟩
        · rw [upd_ne ne]; exact z1.b
        · rw [upd_ne neD1.symm]; exact z1.d
        · rw [upd_ne (ne_of_none e hDe)]; exact z1.s b o e
    · rintro σ H5 ⟨x3, x4, x5, rfl, zs⟩
      have ln : (nats (partsOf rs)).length = (partsOf rs).length := by unfold nats; rw [List.length_map]
      rw [ln, List.take_of_length_le (Nat.le_refl _)] at zs
      have le2 := (foldZ_len1 rs (partsOf rs)).2
      have pl : (partsOf rs).length ≤ 1000 := by
        have h1 : (partsOf rs).length ≤ rs.length := by
          unfold partsOf
          exact Nat.le_trans (List.length_filter_le _ _) (by simp)
        omega
      have there := fun k => ends_there (rs := rs) (k := k)
      have q := q
      unfold zonesOf at q
      generalize foldZ rs (partsOf rs) = st at zs le2 there q
      refine ⟨Db, DN P w Db (iv st.2), zs.b, DN.mut, fun od => ?_⟩
      refine ⟨.ref Db, rfl, Db, od, iv st.2, rfl, upd_same, fun L hL => ?_⟩
      have nL : L ≠ Db := fun z => by rw [z, upd_same] at hL; cases hL
      refine lc_it walk_nk (fun i H' => H' = upd (upd H5 Db (.frz od (DN P w Db (iv st.2)))) L (.lst ((soms (st.2.take i)).map V.int))) rfl (fun i H' _ e => by rw [e, upd_ne nL.symm]; exact upd_same) ?_ ?_
      · rintro i x H6 H7 hi rfl ⟨rfl, kk, vv, hx, rfl⟩
        obtain ⟨⟨o, n⟩, ho, eo⟩ : ∃ z, st.2[i]? = some z ∧ (nk z.1, V.int z.2) = (kk, vv) := by
          unfold iv at hx
          rw [List.getElem?_map] at hx
          cases hz : st.2[i]? with
          | none => rw [hz] at hx; cases hx
          | some z => rw [hz] at hx; exact ⟨z, rfl, Option.some.inj hx⟩
        cases eo
        have sm : soms (st.2.take (i + 1)) = soms (st.2.take i) ++ o.toList := by
          unfold soms
          rw [List.take_add_one, ho]
          cases o <;> simp
        rw [sm]
        refine ⟨rfl, nV (nk o), rfl, rfl, o.isSome, (by cases o <;> rfl), ?_⟩
        cases o with
        | none =>
          show _ = _
          rw [show (none : Option Int).toList = [] from rfl, List.append_nil]
        | some m =>
          refine ⟨nV (nk (some m)), rfl, _, upd_same, ?_, ?_⟩
          · have l1 : (soms (st.2.take i)).length ≤ i := by
              unfold soms
              refine Nat.le_trans (List.length_filterMap_le _ _) ?_
              rw [List.length_map, List.length_take]
              omega
            have l2 : i < st.2.length := by rw [iv_len] at hi; exact hi
            rw [List.length_map]
            exact Nat.lt_of_le_of_lt (Nat.le_trans l1 (show i ≤ 1001 by omega)) (by decide)
          · rw [upd_upd, List.map_append]
            rfl
      · rintro H6 rfl
        have e0 : soms (st.2.take (iv st.2).length) = soms st.2 := by rw [iv_len, List.take_of_length_le (Nat.le_refl _)]
        rw [e0]
        refine ⟨by rw [upd_ne nL.symm]; exact upd_same, ?_⟩
        have bk : upd (upd (upd H5 Db (.frz od (DN P w Db (iv st.2)))) L (.lst ((soms st.2).map V.int))) Db (DN P w Db (iv st.2)) = upd H5 L (.lst ((soms st.2).map V.int)) := by
          funext x
          unfold upd
          by_cases x1 : x = Db
          · subst x1
            rw [if_pos rfl, if_neg nL.symm]
            exact zs.b.symm
          · rw [if_neg x1]
            by_cases x2 : x = L
            · rw [if_pos x2, if_pos x2]
            · rw [if_neg x2, if_neg x2, if_neg x1]
        rw [bk]
        have nL5 : H5 L = none := by rw [upd_ne nL] at hL; exact hL
        refine ⟨L, soms st.2, rfl, SqL.of upd_same, fun ns M perm asc hM => ?_⟩
        obtain rfl := PySem.W.eq_sortI perm asc
        have s8 : Same H5 (upd (upd H5 L (.lst ((soms st.2).map V.int))) M (.lst ((PySem.W.sortI (soms st.2)).map V.int))) := (same_new nL5).trans (same_new hM)
        have zm : upd (upd H5 L (.lst ((soms st.2).map V.int))) M (.lst ((PySem.W.sortI (soms st.2)).map V.int)) M = some (.lst ((putsZ st.2).map V.int)) := upd_same
        have z8 : ZS P w De Db D H1 rs st (upd (upd H5 L (.lst ((soms st.2).map V.int))) M (.lst ((PySem.W.sortI (soms st.2)).map V.int))) := ⟨s8 _ _ zs.e, s8 _ _ zs.b, s8 _ _ zs.d, zs.s.trans s8⟩
        generalize upd (upd H5 L (.lst ((soms st.2).map V.int))) M (.lst ((PySem.W.sortI (soms st.2)).map V.int)) = H8 at zm z8 ⊢
        refine lots_val rfl rfl (by omega) z8.b zm fun L2 H9 s9 hL2 => ?_
        have z9 : ZS P w De Db D H1 rs st H9 := ⟨s9 _ _ z8.e, s9 _ _ z8.b, s9 _ _ z8.d, z8.s.trans s9⟩
        refine ⟨.ref L2, rfl, L2, rfl, ⟨_, SqL.of hL2⟩, fun G hG => ?_⟩
        refine lc_it (walk_list (K := K) (a := L2) (xs := (lotsZ st.2).map oV)) (fun i H' => ∃ qs : List Addr, H' G = some (.lst (qs.map V.ref)) ∧ qs.length = i ∧ Same H9 H' ∧ ∀ (j : Nat) q k, qs[j]? = some q → (lotsZ st.2)[j]? = some k → H' q = some (.tup [oV (zoneZ st k).1, .int (zoneZ st k).2.1, .int (zoneZ st k).2.2])) ⟨[], upd_same, rfl, same_new hG, fun j q k e => by cases e⟩ (fun i H' _ ⟨qs, _, _, s, _⟩ => SqL.of (s _ _ hL2)) ?_ ?_
        · rintro i x H10 H11 hi ⟨qs, hg, lq, s10, all⟩ ⟨rfl, hx⟩
          have hi2 : i < (lotsZ st.2).length := by rw [List.length_map] at hi; exact hi
          obtain ⟨k, hk, rfl⟩ : ∃ k, (lotsZ st.2)[i]? = some k ∧ oV k = x := by
            rw [List.getElem?_map, List.getElem?_eq_getElem hi2] at hx
            exact ⟨_, List.getElem?_eq_getElem hi2, Option.some.inj hx⟩
          have in2 := lots_there (List.mem_of_getElem? hk)
          have in1 := there k in2
          refine ⟨rfl, yes_go ⟨oV k, rfl, .ref De, rfl, oV k, rfl, De, iv st.1, nk k, .int ((getO st.1 k).getD 0), rfl, .inl (s10 _ _ z9.e), (nk_v _).symm, get_val in1, .ref Db, rfl, oV k, rfl, Db, iv st.2, nk k, .int ((getO st.2 k).getD 0), rfl, .inl (s10 _ _ z9.b), (nk_v _).symm, get_val in2, (show 3 ≤ sizeLine by decide), fun T hT => ?_⟩⟩
          have nT : T ≠ G := fun z => by rw [z, hg] at hT; cases hT
          refine ⟨qs.map V.ref, ?_, ?_, qs ++ [T], ?_, ?_, ?_, ?_⟩
          · rw [upd_ne nT.symm]; exact hg
          · have := lotsZ_len st.2
            rw [List.length_map, lq]
            exact Nat.lt_of_le_of_lt (show i ≤ 1002 by omega) (by decide)
          · rw [upd_same, List.map_append]; rfl
          · rw [List.length_append, lq]; rfl
          · exact fun b o e => by
              rw [upd_ne (ne_of_none e hG), upd_ne (ne_of_none (s10 b o e) hT)]
              exact s10 b o e
          · intro j q' k' e1 e2
            by_cases hj : j < qs.length
            · rw [List.getElem?_append_left hj] at e1
              have old := all j q' k' e1 e2
              have n1 : q' ≠ G := fun z => by rw [z, hg] at old; cases old
              rw [upd_ne n1, upd_ne (ne_of_none old hT)]
              exact old
            · have : j = qs.length := by
                have := (List.getElem?_eq_some_iff.mp e1).1
                rw [List.length_append] at this
                simp at this
                omega
              subst this
              rw [List.getElem?_append_right (Nat.le_refl _), Nat.sub_self] at e1
              cases e1
              rw [lq, hk] at e2
              cases e2
              rw [upd_ne nT]
              exact upd_same
        · rintro H10 ⟨qs, hg, lq, s10, all⟩
          refine ⟨G, _, rfl, .inl ⟨SqL.of hg, fun l hl => ?_⟩⟩
          have s11 : Same H10 (upd H10 l (.tup (qs.map V.ref))) := same_new hl
          refine q l _ ((s1.trans z9.s).trans (s10.trans s11)) ⟨qs, upd_same, ?_, fun j q' z e1 e2 => ?_⟩
          · rw [lq, List.length_map, List.length_map]
          · rw [List.getElem?_map] at e2
            cases hk : (lotsZ st.2)[j]? with
            | none => rw [hk] at e2; cases e2
            | some k =>
              rw [hk] at e2
              cases e2
              exact s11 _ _ (all j q' k e1 hk)
end
end K36
end

section
set_option Elab.async false
set_option linter.all false
set_option maxRecDepth 100000
set_option maxHeartbeats 4000000
/-! what draws -/
namespace K36
open PySem L2 KZ
abbrev sWell : Stmt := top 30
abbrev sDraw : Stmt := top 31
abbrev sOne : Stmt := top 32
/-- at p: what draws; its cells at c -/
structure PenAt (H : Hp) (p c : Addr) (cells : List Int) (n : Nat) : Prop where
  ex : ∃ at_ great : Int, H p = some (.lst [.ref c, .int at_, .int great]) ∧ 0 ≤ at_ ∧ at_ ≤ n ∧ 0 ≤ great
  cs : H c = some (.lst (cells.map V.int))
  few : cells.length ≤ 63
  ne : p ≠ c
theorem PenAt.mono {H H' : Hp} {p c : Addr} {cells : List Int} {n m : Nat} (h : PenAt H p c cells n) (e : Same H H') (hn : n ≤ m) : PenAt H' p c cells m := by
  obtain ⟨a, g, h1, h2, h3, h4⟩ := h.ex
  exact ⟨⟨a, g, e _ _ h1, h2, by omega, h4⟩, e _ _ h.cs, h.few, h.ne⟩
/-- all but p is as it was -/
def Kept (p : Addr) (H H' : Hp) : Prop := ∀ b o, b ≠ p → H b = some o → H' b = some o
theorem Kept.trans {p : Addr} {H H1 H2 : Hp} (a : Kept p H H1) (b : Kept p H1 H2) : Kept p H H2 := fun x o hx e => b x o hx (a x o hx e)
theorem Kept.of {p : Addr} {H H1 : Hp} (a : Same H H1) : Kept p H H1 := fun x o _ e => a x o e
def spPen (K : PySem.W.Frag) : Sp := fun vs H Q _ => ∃ (a : Addr) (ns : List Int), vs = [.ref a] ∧ SqL K H a (ns.map V.int) ∧ ns.length ≤ 63 ∧
  ∀ p c cells H', H p = none → H c = none → Same H H' → PenAt H' p c cells 0 → Q (.ref p) H'
def spDraw : Sp := fun vs H Q _ => ∃ (p c : Addr) (cells : List Int) (n : Nat) (m : Int), vs = [.ref p, .int m] ∧ PenAt H p c cells n ∧ n ≤ 10000 ∧ 0 < m ∧ m ≤ 1000000000000 ∧
  ∀ r H', 0 ≤ r → r < m → PenAt H' p c cells (n + 1) → Kept p H H' → Q (.int r) H'
theorem cut63 (ns : List Int) : ∃ cells : List Int, cutV (ns.map V.int) none (some 63) = cells.map V.int ∧ cells.length ≤ ns.length := by
  refine ⟨(ns.drop (HT.sIx (ns.map V.int).length 0 none)).take (HT.sIx (ns.map V.int).length (ns.map V.int).length (some 63) - HT.sIx (ns.map V.int).length 0 none), ?_, ?_⟩
  · unfold cutV
    rw [List.map_take, List.map_drop]
  · rw [List.length_take, List.length_drop]
    omega
section
variable {P : Program} {w : World} {K : PySem.W.Frag} {mg : Str → Option Value} {base : Heap}
theorem scWell : FnScope ["script"] ["script"] (defScope sWell) := ⟨rfl, rfl, rfl, by decide +kernel, rfl, by decide +kernel, by decide +kernel⟩
theorem ok_well {f : Addr} {fd : FuncData} (F : Fun K "_law_well" "_law_well" sWell f fd) (T : B1 mg) : FnOk P w K mg base CX0 1 f fd ["script"] (spPen K) := by
  refine F.ok scWell (fun vs H Q E h => ?_) (fun cdv A outer s H vs Q E hr h => ?_)
  · obtain ⟨a, ns, rfl, _⟩ := h
    rfl
  · obtain ⟨a, ns, rfl, hs, hl, q⟩ := h
    refine ⟨_, pss_one (ps_ret (pe_lst (pa_cons (pe_callTy call_list_of (by rfl) T.list (by decide +kernel) (pa_cons (pe_slice sl_list (pv 0) po_none (po_some pe_int)) pa_nil)) (pa_cons pe_int (pa_cons pe_int pa_nil))))), ?_⟩
    obtain ⟨cells, hc, hcl⟩ := cut63 ns
    refine ⟨_, rfl, 63, rfl, a, _, rfl, hs, fun l hn => ⟨l, _, rfl, .inl (SqL.of upd_same), fun D hD => ⟨by show 3 ≤ sizeLine; decide, fun p hp => ?_⟩⟩⟩
    rw [hc] at hD hp ⊢
    have hlD : l ≠ D := fun z => by
      rw [← z, upd_same] at hD
      cases hD
    have hDn : H D = none := by
      rw [upd_ne (Ne.symm hlD)] at hD
      exact hD
    have hpD : p ≠ D := fun z => by
      rw [z, upd_same] at hp
      cases hp
    have hpl : p ≠ l := fun z => by
      rw [z, upd_ne hlD, upd_same] at hp
      cases hp
    have hpn : H p = none := by
      rw [upd_ne hpD, upd_ne hpl] at hp
      exact hp
    exact q p D cells _ hpn hDn ((same_new hn).trans ((same_new (show (upd H l (.lst (cells.map V.int))) D = none from by rw [upd_ne (Ne.symm hlD)]; exact hDn)).trans (same_new hp))) ⟨⟨0, 0, upd_same, by decide, by decide, by decide⟩, by rw [upd_ne (Ne.symm hpD), upd_same], Nat.le_trans hcl hl, hpD⟩
theorem dp_ints {H : Hp} : ∀ (l : List Int), DpAll K H (l.map V.int) (l.map PyData.int)
  | [] => .nil
  | i :: r => .cons (.int i) (dp_ints r)
theorem can_ints : ∀ l : List Int, PyData.canLayAll0 (l.map PyData.int) = true
  | [] => rfl
  | i :: r => by
    show (PyData.canLay0 (.int i) && PyData.canLayAll0 (r.map PyData.int)) = true
    rw [can_ints r]
    rfl
theorem depth_ints : ∀ l : List Int, PyData.depthAll (l.map PyData.int) = 0
  | [] => rfl
  | i :: r => by
    show max (PyData.depth (.int i)) (PyData.depthAll (r.map PyData.int)) = 0
    rw [depth_ints r]
    rfl
theorem shaped_ints (l : List Int) : SeqAt.shaped (.list (l.map PyData.int)) = true := by
  unfold SeqAt.shaped
  have h1 : PyData.canLay0 (.list (l.map PyData.int)) = true := can_ints l
  have h2 : PyData.depth (.list (l.map PyData.int)) ≤ 64 := by
    show PyData.depthAll (l.map PyData.int) + 1 ≤ 64
    rw [depth_ints]
    decide
  rw [h1, decide_eq_true h2]
  rfl
theorem eqv_nil (l : List Int) : PyData.eqv (.list (l.map PyData.int)) (.list []) = l.isEmpty := by
  cases l <;> rfl
theorem scDraw : FnScope ["well", "many", "digit", "turn", "cell", "great", "mixed"] ["well", "many"] (defScope sDraw) := ⟨rfl, rfl, rfl, by decide +kernel, rfl, by decide +kernel, by decide +kernel⟩
theorem pow_b {x : Int} {b : Nat} (h1 : 0 ≤ x) (h2 : x < 2 ^ 63) : CPow x (b : Int) ↔ (b ≤ 1000000) := by
  unfold CPow
  constructor
  · rintro ⟨_, h, _⟩
    omega
  · intro h
    refine ⟨by omega, by omega, ?_⟩
    omega
theorem if_setI {b : Bool} {te : TE} {i : Nat} {D : Ends} {σ : L2.St} {H : Hp} (h1 : b = true → ∀ Q : VK, (∀ z : Int, Q (.int z) H) → te σ H Q) (h0 : ∃ z0 : Int, σ = σ.set i (some (.int z0))) (rest : ∀ z : Int, D.nx (σ.set i (some (.int z))) H) :
    if b = true then tAsg te (gName i) D σ H else D.nx σ H := by
  cases b with
  | true => exact iteT (h1 rfl _ fun z => rest z)
  | false =>
    obtain ⟨z0, e⟩ := h0
    rw [e]
    exact iteF (rest z0)
theorem if_and {t u : TT} {s1 s2 : TS} {D : Ends} {σ : L2.St} {H : Hp} (b1 b2 : Bool) (h1 : ∀ Q : Bool → Hp → Prop, Q b1 H → t σ H Q) (h2 : b1 = true → ∀ Q : Bool → Hp → Prop, Q b2 H → u σ H Q) (tail : s2 D σ H) (go : b1 = true → b2 = true → s1 { D with nx := s2 D } σ H) :
    tSeq (tIfS (tAnd t u) s1 tNext) s2 D σ H := by
  refine h1 _ ?_
  cases b1 with
  | false => exact iteF (iteF tail)
  | true =>
    refine iteT (h2 rfl _ ?_)
    cases b2 with
    | false => exact iteF tail
    | true => exact iteT (go rfl rfl)
theorem ok_draw {f : Addr} {fd : FuncData} (F : Fun K "_law_draw" "_law_draw" sDraw f fd) (T : B1 mg) : FnOk P w K mg base CX0 1 f fd ["well", "many"] spDraw := by
  refine F.ok scDraw (fun vs H Q E h => ?_) (fun cdv A outer s H vs Q E hr h => ?_)
  · obtain ⟨p, c, cells, n, m, rfl, _⟩ := h
    rfl
  · obtain ⟨p, c, cells, n, m, rfl, pen, hn, hm0, hm1, q⟩ := h
    obtain ⟨at_, gr, hp, ha0, ha1, hg0⟩ := pen.ex
    have hcs := pen.cs
    have npc := pen.ne
    have hlog : m.natAbs.log2 < 9000 := (Nat.log2_lt (by omega)).mpr (Nat.lt_of_lt_of_le (show m.natAbs < 2 ^ 40 by omega) (Nat.pow_le_pow_right (by decide) (by decide)))
    refine ⟨_, (pss_cons (ps_if (pt_cmpR op_gt (pe_ix ix_list (pv 0) pe_int (fun _ _ => rfl)) pe_int (nomark _))
(pss_cons (ps_set (i := 2) scDraw.nd rfl (Or.inl rfl) (pe_op op_mod (pe_callTy call_int1 (by rfl) T.int (by decide +kernel) (pa_cons (pe_ix ix_list (pv 0) pe_int (fun _ _ => rfl)) pa_nil)) (pv 1)))
(pss_cons (ps_asg (pe_op op_fdivW (pe_callTy call_int1 (by rfl) T.int (by decide +kernel) (pa_cons (pe_ix ix_list (pv 0) pe_int (fun _ _ => rfl)) pa_nil)) (pv 1)) (pg_sub (pv 0) pe_int set_list))
(pss_one (ps_ret (pv 2)))))
pss_nil)
(pss_cons (ps_set (i := 3) scDraw.nd rfl (Or.inl rfl) (pe_ix ix_list (pv 0) pe_int (fun _ _ => rfl)))
(pss_cons (ps_asg (pe_op op_add (pv 3) pe_int) (pg_sub (pv 0) pe_int set_list))
(pss_cons (ps_set (i := 4) scDraw.nd rfl (Or.inl rfl) (pe_op op_add (pe_op op_mul pe_int (pv 3)) pe_int))
(pss_cons (ps_if (pt_cmpR (op_neD hr.units) (pe_ix ix_list (pv 0) pe_int (fun _ _ => rfl)) (pe_lst pa_nil) (nomark _))
(pss_one (ps_set (i := 4) scDraw.nd rfl (Or.inl rfl) (pe_ix ix_list (pe_ix ix_list (pv 0) pe_int (fun _ _ => rfl)) (pe_op op_mod (pe_callTy call_int1 (by rfl) T.int (by decide +kernel) (pa_cons (pv 3) pa_nil)) (pe_callB call_len (by rfl) T.len PySem.boot_len (pa_cons (pe_ix ix_list (pv 0) pe_int (fun _ _ => rfl)) pa_nil))) (fun _ _ => rfl))))
pss_nil)
(pss_cons (ps_if (PW.pt (pw_and (pt_cmpR op_lt (pv 3) (pe_callB call_len (by rfl) T.len PySem.boot_len (pa_cons (pe_ix ix_list (pv 0) pe_int (fun _ _ => rfl)) pa_nil)) (nomark _)) (pw_and1 (pt_cmpR op_ge (pe_callB call_abs (by rfl) T.abs (by decide +kernel) (pa_cons (pv 4) pa_nil)) (pe_op op_pow pe_int pe_int) (nomark _)))))
(pss_cons (ps_set (i := 5) scDraw.nd rfl (Or.inl rfl) (pe_op op_add (pe_op op_mul pe_int (pe_op op_sub (pe_callB call_abs (by rfl) T.abs (by decide +kernel) (pa_cons (pv 4) pa_nil)) (pe_op op_pow pe_int pe_int))) (pe_callTy call_int1 (by rfl) T.int (by decide +kernel) (pa_cons (pe_cmpR op_lt (pv 4) pe_int (nomark _)) pa_nil))))
(pss_cons (ps_asg (pe_op op_fdivW (pe_callTy call_int1 (by rfl) T.int (by decide +kernel) (pa_cons (pv 5) pa_nil)) (pv 1)) (pg_sub (pv 0) pe_int set_list))
(pss_one (ps_ret (pe_op op_mod (pe_callTy call_int1 (by rfl) T.int (by decide +kernel) (pa_cons (pv 5) pa_nil)) (pv 1))))))
pss_nil)
(pss_cons (ps_set (i := 6) scDraw.nd rfl (Or.inl rfl) (pe_op op_mod (pe_callTy call_int1 (by rfl) T.int (by decide +kernel) (pa_cons (pe_op op_pow (pe_op op_add (pe_op op_add (pe_op op_mod (pe_callTy call_int1 (by rfl) T.int (by decide +kernel) (pa_cons (pv 4) pa_nil)) pe_int) (pe_op op_mul pe_int (pv 3))) pe_int) pe_int) pa_nil)) pe_int))
(pss_cons (ps_set (i := 6) scDraw.nd rfl (Or.inl rfl) (pe_op op_mod (pe_callTy call_int1 (by rfl) T.int (by decide +kernel) (pa_cons (pe_op op_pow (pe_op op_add (pe_op op_add (pe_op op_mul (pv 6) (pe_op op_add (pe_op op_mul pe_int (pv 3)) pe_int)) (pe_op op_mul (pe_op op_mul pe_int (pv 3)) (pv 3))) pe_int) pe_int) pa_nil)) pe_int))
(pss_one (ps_ret (pe_op op_mod (pe_callTy call_int1 (by rfl) T.int (by decide +kernel) (pa_cons (pe_op op_fdiv (pv 6) pe_int) pa_nil)) (pv 1)))))))))))), ?_⟩
    have i2 : atI [V.ref c, V.int at_, V.int gr] 2 = some (V.int gr) := rfl
    have i1 : atI [V.ref c, V.int at_, V.int gr] 1 = some (V.int at_) := rfl
    have i0 : ∀ z, atI [V.ref c, V.int z, V.int gr] 0 = some (V.ref c) := fun _ => rfl
    refine ⟨_, rfl, p, _, 2, _, rfl, rfl, SqL.of hp, i2, gr, 0, rfl, rfl, _, rfl, ?_⟩
    refine ite2 (fun hg => ?_) (fun hg => ?_)
    · have hg' : 0 < gr := of_decide_eq_true hg
      refine ⟨_, rfl, p, _, 2, _, rfl, rfl, SqL.of hp, i2, .inl ⟨gr, rfl, _, rfl, gr, m, rfl, rfl, hm0, ?_⟩⟩
      refine ⟨_, rfl, p, _, 2, _, rfl, rfl, SqL.of hp, i2, .inl ⟨gr, rfl, _, rfl, gr, m, rfl, rfl, ⟨hm0, hlog⟩, ?_⟩⟩
      refine ⟨_, rfl, p, _, 2, 2, rfl, rfl, hp, rfl, _, rfl, ?_⟩
      refine q (gr % m) _ (Int.emod_nonneg _ (by omega)) (Int.emod_lt_of_pos _ hm0) ⟨⟨at_, gr / m, upd_same, ha0, by omega, Int.ediv_nonneg hg0 (by omega)⟩, by rw [upd_ne (Ne.symm npc)]; exact hcs, pen.few, npc⟩ (fun b o hb e => by rw [upd_ne hb]; exact e)
    · have hg' : gr = 0 := by
        have : ¬ 0 < gr := fun z => hg (decide_eq_true z)
        omega
      refine ⟨_, rfl, p, _, 1, _, rfl, rfl, SqL.of hp, i1, ?_⟩
      refine ⟨_, rfl, at_, 1, rfl, rfl, _, rfl, p, _, 1, 1, rfl, rfl, hp, rfl, ?_⟩
      obtain ⟨H1, hH1⟩ : ∃ H1, H1 = upd H p (.lst [V.ref c, V.int (at_ + 1), V.int gr]) := ⟨_, rfl⟩
      have h1p : H1 p = some (.lst [V.ref c, V.int (at_ + 1), V.int gr]) := by rw [hH1, upd_same]
      have h1c : H1 c = some (.lst (cells.map V.int)) := by rw [hH1, upd_ne (Ne.symm npc)]; exact hcs
      have k1 : Kept p H H1 := fun b o hb e => by rw [hH1, upd_ne hb]; exact e
      show _
      rw [show upd H p (HO.lst ([V.ref c, V.int at_, V.int gr].set 1 (V.int (at_ + 1)))) = H1 from hH1.symm]
      refine ⟨_, rfl, 71549, at_, rfl, rfl, .inl ⟨by decide, by decide⟩, _, _, rfl, rfl, ?_⟩
      refine ⟨_, rfl, p, _, 0, _, rfl, rfl, SqL.of h1p, rfl, Nat.zero_le _, fun l hl => ?_⟩
      have k2 : Same H1 (upd H1 l (.lst [])) := same_new hl
      refine ⟨_, _, Dp.lst (SqL.of (k2 _ _ h1c)) (dp_ints cells), Dp.lst (SqL.of upd_same) .nil, shaped_ints cells, by decide +kernel, _, rfl, ?_⟩
      -- behind the cell is taken
      obtain ⟨H2, hH2⟩ : ∃ H2, H2 = upd H1 l (.lst []) := ⟨_, rfl⟩
      rw [← hH2] at k2 ⊢
      have h2p := k2 _ _ h1p
      have h2c := k2 _ _ h1c
      have k3 : Kept p H H2 := k1.trans (Kept.of k2)
      have fin : ∀ (gr' : Int) (H3 : Hp), 0 ≤ gr' → H3 = upd H2 p (.lst [V.ref c, V.int (at_ + 1), V.int gr']) ∨ (H3 = H2 ∧ gr' = gr) → PenAt H3 p c cells (n + 1) ∧ Kept p H H3 := fun gr' H3 g0 e => by
        rcases e with e | ⟨e, e'⟩
        · rw [e]
          exact ⟨⟨⟨_, gr', upd_same, by omega, by omega, g0⟩, by rw [upd_ne (Ne.symm npc)]; exact h2c, pen.few, npc⟩, fun b o hb z => by rw [upd_ne hb]; exact k3 b o hb z⟩
        · rw [e]
          exact ⟨⟨⟨_, gr, h2p, by omega, by omega, hg0⟩, h2c, pen.few, npc⟩, k3⟩
      refine if_setI (fun hb Q' k => ?_) ⟨_, rfl⟩ (fun z => ?_)
      · have hne : cells ≠ [] := fun e => by
          rw [eqv_nil, e] at hb
          cases hb
        have hl0 : 0 < cells.length := List.length_pos_iff.mpr hne
        have hr0 : 0 ≤ at_ % (cells.length : Int) := Int.emod_nonneg _ (by omega)
        have hr1 : at_ % (cells.length : Int) < cells.length := Int.emod_lt_of_pos _ (by omega)
        obtain ⟨j, hj⟩ : ∃ j : Nat, at_ % (cells.length : Int) = j := ⟨_, (Int.toNat_of_nonneg hr0).symm⟩
        have hjl : j < cells.length := by omega
        refine ⟨_, rfl, p, _, 0, _, rfl, rfl, SqL.of h2p, rfl, _, rfl, .inl ⟨at_, rfl, _, rfl, p, _, 0, _, rfl, rfl, SqL.of h2p, rfl, .ref c, cells.length, rfl, .inl ⟨_, SqL.of h2c, by rw [List.length_map]⟩, at_, cells.length, rfl, rfl, by omega, ?_⟩⟩
        refine ⟨c, _, _, .int (cells[j]'hjl), rfl, rfl, SqL.of h2c, ?_, k _⟩
        rw [hj]
        exact atI_nat (by simp [hjl])
      · dsimp only
        refine if_and (decide (at_ < (cells.length : Int))) (decide ((10 : Int) ^ (18 : Int).toNat ≤ (if z < 0 then -z else z))) (fun Q' k => ?_) (fun _ Q' k => ?_) ?_ (fun _ hbig => ?_)
        · exact ⟨_, rfl, _, rfl, p, _, 0, _, rfl, rfl, SqL.of h2p, rfl, .ref c, cells.length, rfl, .inl ⟨_, SqL.of h2c, by rw [List.length_map]⟩, at_, cells.length, rfl, rfl, _, rfl, k⟩
        · exact ⟨_, rfl, z, rfl, 10, 18, rfl, rfl, ⟨by decide, by decide, by decide⟩, _, _, rfl, rfl, _, rfl, k⟩
        · have b0 : 0 ≤ z % 2147483563 := Int.emod_nonneg _ (by decide)
          have b1 : z % 2147483563 < 2147483563 := Int.emod_lt_of_pos _ (by decide)
          have b2 : at_ ≤ 10000 := by omega
          refine ⟨_, rfl, .inl ⟨z, rfl, z, 2147483563, rfl, rfl, (show (0 : Int) < 2147483563 by decide), _, rfl, 90163, at_, rfl, rfl, .inl ⟨by decide, by decide⟩, _, _, rfl, rfl, _, _, rfl, rfl, _, 5, rfl, rfl, ⟨by decide, by decide, by omega⟩, .inl ⟨_, rfl, _, 2147483549, rfl, rfl, (show (0 : Int) < 2147483549 by decide), ?_⟩⟩⟩
          dsimp only
          generalize (z % 2147483563 + 90163 * at_ + 1109) ^ (5 : Int).toNat = big1
          have c0 : 0 ≤ big1 % 2147483549 := Int.emod_nonneg _ (by decide)
          have c1 : big1 % 2147483549 < 2147483549 := Int.emod_lt_of_pos _ (by decide)
          generalize hmx : big1 % 2147483549 = mx at c0 c1 ⊢
          have c2 : 0 ≤ mx * (2 * at_ + 431) := Int.mul_nonneg c0 (by omega)
          have c3 : mx * (2 * at_ + 431) ≤ 2147483549 * 20431 := Int.mul_le_mul (by omega) (by omega) (by omega) (by decide)
          have c4 : 0 ≤ 71293 * at_ * at_ := Int.mul_nonneg (by omega) ha0
          have c5 : 71293 * at_ * at_ ≤ 712930000 * 10000 := Int.mul_le_mul (by omega) b2 ha0 (by decide)
          refine ⟨_, rfl, _, rfl, 2, at_, rfl, rfl, .inl ⟨by decide, by decide⟩, _, _, rfl, rfl, mx, _, rfl, rfl, .inl ⟨by omega, by omega⟩, _, rfl, 71293, at_, rfl, rfl, .inl ⟨by decide, by decide⟩, _, rfl, _, at_, rfl, rfl, .inl ⟨by omega, by omega⟩, _, _, rfl, rfl, _, _, rfl, rfl, _, 3, rfl, rfl, ⟨by decide, by decide, by omega⟩, .inl ⟨_, rfl, _, 2147483489, rfl, rfl, (show (0 : Int) < 2147483489 by decide), ?_⟩⟩
          dsimp only
          generalize (mx * (2 * at_ + 431) + 71293 * at_ * at_ + 89) ^ (3 : Int).toNat = big2
          refine ⟨_, rfl, _, 32, rfl, rfl, ⟨by decide, by decide⟩, .inl ⟨_, rfl, _, rfl, _, m, rfl, rfl, hm0, ?_⟩⟩
          obtain ⟨f1, f2⟩ := fin gr H2 hg0 (.inr ⟨rfl, rfl⟩)
          exact q _ _ (Int.emod_nonneg _ (by omega)) (Int.emod_lt_of_pos _ hm0) f1 f2
        · have hz0 : ∀ b : Bool, (0 : Int) ≤ 2 * ((if z < 0 then -z else z) - 10 ^ (18 : Int).toNat) + (if b = true then 1 else 0) := fun b => by
            have h1 : (10 : Int) ^ (18 : Int).toNat ≤ (if z < 0 then -z else z) := of_decide_eq_true hbig
            have h2 : (0 : Int) ≤ (if b = true then 1 else 0) := by cases b <;> decide
            omega
          refine ⟨_, rfl, z, rfl, 10, 18, rfl, rfl, ⟨by decide, by decide, by decide⟩, _, _, rfl, rfl, 2, _, rfl, rfl, .inl ⟨by decide, by decide⟩, _, rfl, z, 0, rfl, rfl, .inr ⟨_, rfl, _, _, rfl, rfl, ?_⟩⟩
          dsimp only
          have hz1 := hz0 (decide (z < 0))
          generalize 2 * ((if z < 0 then -z else z) - 10 ^ (18 : Int).toNat) + (if decide (z < 0) = true then 1 else 0) = gg at hz1 ⊢
          refine ⟨_, rfl, .inl ⟨gg, rfl, _, rfl, gg, m, rfl, rfl, ⟨hm0, hlog⟩, _, rfl, p, _, 2, 2, rfl, rfl, h2p, rfl, _, rfl, .inl ⟨gg, rfl, _, rfl, gg, m, rfl, rfl, hm0, ?_⟩⟩⟩
          obtain ⟨f1, f2⟩ := fin (gg / m) _ (Int.ediv_nonneg hz1 (by omega)) (.inl rfl)
          exact q _ _ (Int.emod_nonneg _ (by omega)) (Int.emod_lt_of_pos _ hm0) f1 f2
theorem scOne : FnScope ["well", "some"] ["well", "some"] (defScope sOne) := ⟨rfl, rfl, rfl, by decide +kernel, rfl, by decide +kernel, by decide +kernel⟩
def spOne : Sp := fun vs H Q _ => ∃ (p c s : Addr) (cells : List Int) (n : Nat) (xs : List V), vs = [.ref p, .ref s] ∧ PenAt H p c cells n ∧ n ≤ 10000 ∧ H s = some (.lst xs) ∧ s ≠ p ∧ 0 < xs.length ∧ xs.length ≤ 100 ∧
  ∀ (i : Nat) (x : V) H', xs[i]? = some x → PenAt H' p c cells (n + 1) → Kept p H H' → Q x H'
theorem ok_one {f fD : Addr} {fd dD : FuncData} (F : Fun K "_law_one" "_law_one" sOne f fd) (T : B1 mg) (gD : mg "_law_draw" = some (.ref fD)) (FD : Fun K "_law_draw" "_law_draw" sDraw fD dD) (bD : Binds K dD ["well", "many"] []) : FnOk P w K mg base CX0 2 f fd ["well", "some"] spOne := by
  have GD : FnOk P w K mg base CX0 1 fD dD ["well", "many"] spDraw := ok_draw FD T
  refine F.ok scOne (fun vs H Q E h => ?_) (fun cdv A outer s H vs Q E hr h => ?_)
  · obtain ⟨p, c, s, cells, n, xs, rfl, _⟩ := h
    rfl
  · obtain ⟨p, c, s, cells, n, xs, rfl, pen, hn, hs, nsp, hx0, hx1, q⟩ := h
    refine ⟨_, (pss_one (ps_ret (pe_ix (ix_seqK K) (pv 1) (pe_call GD hr (by rfl) gD FD.kp bD .nil pass0 (pa_cons (pv 0) (pa_cons (pe_callB call_len (by rfl) T.len PySem.boot_len (pa_cons (pv 1) pa_nil)) pa_nil))) (fun _ _ => rfl)))), ?_⟩
    refine ⟨_, rfl, _, rfl, _, rfl, .ref s, xs.length, rfl, .inl ⟨xs, SqL.of hs, rfl⟩, p, c, cells, n, xs.length, rfl, pen, hn, by omega, by omega, fun r H' r0 r1 pen' kp => ?_⟩
    obtain ⟨j, hj⟩ : ∃ j : Nat, r = j := ⟨_, (Int.toNat_of_nonneg r0).symm⟩
    have hjl : j < xs.length := by omega
    have e : xs[j]? = some (xs[j]'hjl) := List.getElem?_eq_getElem hjl
    exact Sq.ix (.inl (SqL.of (kp s _ nsp hs))) (by rw [hj]; exact atI_nat e) (q j _ H' e pen' kp)
end
end K36
end

section
set_option Elab.async false
set_option linter.all false
set_option maxRecDepth 100000
set_option maxHeartbeats 4000000
/-! the law's rows -/
namespace K36
open PySem L2 KZ
abbrev sMade : Stmt := top 34
abbrev sLParts : Stmt := top 35
def rowV (r : Row) : List V := [.str r.c, .str (wd r.g), .int r.b, oV r.e, oV r.t]
def RowAt (H : Hp) (p : Addr) (r : Row) : Prop := H p = some (.tup (rowV r))
/-- a list of rows -/
def RowsAt (H : Hp) (a : Addr) (rs : List Row) : Prop := ∃ ps : List Addr, H a = some (.lst (ps.map V.ref)) ∧ ps.length = rs.length ∧ ∀ (i : Nat) p r, ps[i]? = some p → rs[i]? = some r → RowAt H p r
theorem RowsAt.mono {H H' : Hp} {a : Addr} {rs : List Row} (s : Same H H') (h : RowsAt H a rs) : RowsAt H' a rs := by
  obtain ⟨ps, h1, h2, h3⟩ := h
  exact ⟨ps, s _ _ h1, h2, fun i p r e1 e2 => s _ _ (h3 i p r e1 e2)⟩
theorem oD_dv {K : PySem.W.Frag} {H : Hp} (o : Option Int) : Dv K H (oV o) (oD o) := by
  cases o with
  | none => exact .non
  | some i => exact .int i
def spMade (C : Addr) : Sp := fun vs H Q _ => ∃ t r, vs = [.ref t] ∧ RowAt H t r ∧ r.Ok ∧ r.c.length ≤ 1000 ∧ ∀ x H', H x = none → Same H H' → AskAt C H' x r → Q (.ref x) H'
section
variable {P : Program} {w : World} {K : PySem.W.Frag} {mg : Str → Option Value} {base : Heap} {fI C cB : Addr} {dI : FuncData}
theorem scMade : FnScope ["row"] ["row"] (defScope sMade) := ⟨rfl, rfl, rfl, by decide +kernel, rfl, by decide +kernel, by decide +kernel⟩
theorem ok_made {f : Addr} {fd : FuncData} (F : Fun K "_law_made" "_law_made" sMade f fd) (A : AskC K mg C) (M : Mk K C fI) (GI : FnOk P w K mg base (L2.CX P w) 8 fI dI ["self", "client", "word", "begun", "ended", "told"] (spInit K C cB)) (bI : Binds K dI ["self", "client", "word", "begun", "ended", "told"] []) :
    FnOk P w K mg base (L2.CX P w) 10 f fd ["row"] (spMade C) := by
  refine F.okX scMade (fun vs H Q E h => ?_) (fun cdv A' outer s H vs Q E hr h => ?_)
  · obtain ⟨t, r, rfl, _⟩ := h
    rfl
  · obtain ⟨t, r, rfl, ht, ok, cl, q⟩ := h
    refine ⟨_, pss_one (ps_ret (pe_make M GI hr (by rfl) A.mg bI .nil (passes_call (takes_of rfl rfl rfl rfl) fun _ _ _ _ z => z) (pa_cons (pe_ix (ix_seqK K) (pv 0) pe_int (fun _ _ => rfl)) (pa_cons (pe_ix (ix_seqK K) (pv 0) pe_int (fun _ _ => rfl)) (pa_cons (pe_ix (ix_seqK K) (pv 0) pe_int (fun _ _ => rfl)) (pa_cons (pe_ix (ix_seqK K) (pv 0) pe_int (fun _ _ => rfl)) (pa_cons (pe_ix (ix_seqK K) (pv 0) pe_int (fun _ _ => rfl)) pa_nil))))))), ?_⟩
    have sq : Sq K H t (rowV r) := .inr (SqT.of ht)
    refine ⟨.ref t, rfl, Sq.ix sq rfl ⟨.ref t, rfl, Sq.ix sq rfl ⟨.ref t, rfl, Sq.ix sq rfl ⟨.ref t, rfl, Sq.ix sq rfl ⟨.ref t, rfl, Sq.ix sq rfl ?_⟩⟩⟩⟩⟩
    refine fun x dx hx hdx ne => ?_
    have s1 : Same H (upd H dx (.own x)) := same_new hdx
    have s2 : Same H (upd (upd H dx (.own x)) x (.ins C dx [])) := s1.trans (same_new (by rw [upd_ne ne.symm]; exact hx))
    refine ⟨x, dx, _, .str r.c, _, .str (wd r.g), _, .int r.b, _, oD r.e, _, oD r.t, rfl, upd_same, .str _, (fun y e => by cases e; exact cl), .str _, rfl, (by cases r.g <;> decide +kernel), .int _, oD_dv _, oD_dv _, ?_, ?_⟩
    · intro r' ok' e1 e2 e3 e4 e5 H' keep ask
      obtain rfl : r' = r := by
        obtain ⟨c1, g1, b1, e1', t1⟩ := r
        obtain ⟨c2, g2, b2, e2', t2⟩ := r'
        have h1 : c1 = c2 := PyData.str.inj e1
        have h2 : g1 = g2 := by
          have h : wd g1 = wd g2 := PyData.str.inj e2
          clear e1 e2 e3 e4 e5 ok ok' ht q keep ask
          cases g1 <;> cases g2
          · rfl
          · exact absurd h (show ¬ wd false = wd true by decide +kernel)
          · exact absurd h (show ¬ wd true = wd false by decide +kernel)
          · rfl
        have h3 : b1 = b2 := PyData.int.inj e3
        have h4 : e1' = e2' := by
          cases e1' <;> cases e2' <;> first | rfl | (cases e4; done) | (cases e4; rfl)
        have h5 : t1 = t2 := by
          cases t1 <;> cases t2 <;> first | rfl | (cases e5; done) | (cases e5; rfl)
        rw [h1, h2, h3, h4, h5]
      exact ⟨rfl, q x H' hx (fun b o e => keep b o (ne_of_none e hx) (s2 b o e)) ask⟩
    · intro p h
      rw [bad_of ok] at h
      cases h
theorem op_in_seqK {X : Cx} (K : PySem.W.Frag) (h : X.K = K := by rfl) : OpR X (compareOp .In) (rIn K false) := by subst h; exact op_in_seq
theorem pg_tupK {X : Cx} {es : List Expr} {k : Nat} {pos : Pos} {t : TGs} {n : Nat} (K : PySem.W.Frag) (hc : X.calm = true) (h : PGs X es t) (hK : X.K = K := by rfl) (hn : (assignEach es X.env).length = n := by rfl) (hst : (assignEach es X.env).findIdx? (·.1) = none := by rfl) : PG X (.Tuple es k pos) (gTup K n t) := by
  subst hK
  exact pg_tup hc h hn hst
def toldI (rs : List Row) : List Int := rs.filterMap (·.t)
theorem told_any {rs : List Row} (ok : ∀ r ∈ rs, r.Ok) (i : Int) : isTold rs (some i) = (toldI rs).any fun j => decide (j = i) := by
  unfold isTold toldI
  rw [Bool.eq_iff_iff, List.any_eq_true, List.any_eq_true]
  constructor
  · rintro ⟨r, m, h⟩
    rw [Bool.and_eq_true] at h
    exact ⟨i, List.mem_filterMap.mpr ⟨r, m, of_decide_eq_true h.2⟩, decide_eq_true rfl⟩
  · rintro ⟨j, m, h⟩
    obtain ⟨r, mr, e⟩ := List.mem_filterMap.mp m
    obtain rfl := of_decide_eq_true h
    obtain ⟨g1, g2, _⟩ := (ok r mr).tg j e
    refine ⟨r, mr, ?_⟩
    rw [Bool.and_eq_true]
    refine ⟨?_, decide_eq_true e⟩
    unfold tells
    rw [g1]
    cases he : r.e with
    | none => exact absurd he g2
    | some x => rfl
theorem part_any {rs : List Row} (ok : ∀ r ∈ rs, r.Ok) (nb : firstBad rs = none) {i : Nat} {r : Row} (hr : rs[i]? = some r) : isPart rs i = (r.e.isSome || (toldI rs).any fun j => decide (j = (i : Int))) := by
  unfold isPart
  rw [hr]
  show (r.e.isSome || (!r.g && isTold rs (some (i : Int)))) = _
  rw [told_any ok]
  cases h : (toldI rs).any fun j => decide (j = (i : Int)) with
  | false => rw [Bool.and_false]
  | true =>
    obtain ⟨j, m, e⟩ := List.any_eq_true.mp h
    obtain rfl := of_decide_eq_true e
    obtain ⟨q, mq, eq⟩ := List.mem_filterMap.mp m
    obtain ⟨n, hn, en⟩ := List.mem_iff_getElem.mp mq
    unfold firstBad at nb
    rw [List.find?_range_eq_none] at nb
    have := nb n hn
    unfold badAt at this
    rw [List.getElem?_eq_getElem hn, en] at this
    have this : (!(match q.t with
      | none => false
      | some j => decide ((rs.length : Int) ≤ j) || (match rs[j.toNat]? with
        | some r => r.g
        | none => true))) = true := this
    rw [eq] at this
    have e2 : rs[((i : Int)).toNat]? = some r := hr
    have this : (!(decide ((rs.length : Int) ≤ (i : Int)) || (match rs[((i : Int)).toNat]? with
      | some r => r.g
      | none => true))) = true := this
    rw [e2] at this
    have this : (!(decide ((rs.length : Int) ≤ (i : Int)) || r.g)) = true := this
    have g0 : r.g = false := by
      cases hg : r.g with
      | false => rfl
      | true => rw [hg, Bool.or_true] at this; cases this
    rw [g0]
    rfl
end
end K36
end

section
set_option Elab.async false
set_option linter.all false
set_option maxRecDepth 100000
set_option maxHeartbeats 4000000
/-! the zones of the program are those of the law: their numbers -/
namespace K36
open PySem L2 KZ
/-- the asks of l of the lot k -/
def mineR (rs : List Row) (k : Option Int) (l : List Nat) : List Row := l.filterMap fun i => (rs[i]?).bind fun r => if lotOf r i = k then some r else none
def accB (o : Option Int) (bs : List Int) : Option Int := bs.foldl (fun o b => some (max2 (o.getD b) b)) o
def accE (o : Option Int) (es : List Int) : Option Int := es.foldl (fun o e => some (min2 (o.getD e) e)) o
theorem mineR_cons (rs : List Row) (k : Option Int) (i : Nat) (l : List Nat) : mineR rs k (i :: l) = (match rs[i]? with
    | some r => if lotOf r i = k then [r] else []
    | none => []) ++ mineR rs k l := by
  unfold mineR
  rw [List.filterMap_cons]
  cases h : rs[i]? with
  | none => simp [h]
  | some r =>
    by_cases hk : lotOf r i = k
    · simp [h, hk]
    · simp [h, hk]
theorem fold_begins (rs : List Row) (k : Option Int) : ∀ (l : List Nat) (st : KI × KI), getO (l.foldl (stepZ rs) st).2 k = accB (getO st.2 k) ((mineR rs k l).map (·.b))
  | [], st => rfl
  | i :: l, st => by
    rw [List.foldl_cons, fold_begins rs k l, mineR_cons]
    cases h : rs[i]? with
    | none => rw [stepZ_none h]; rfl
    | some r =>
      rw [stepZ_some h]
      show accB (getO (begR st.2 i r) k) _ = _
      unfold begR
      rw [getO_set]
      by_cases hk : lotOf r i = k
      · rw [if_pos hk.symm]
        simp only [hk, if_true]
        rfl
      · rw [if_neg fun z => hk z.symm]
        simp only [hk, if_false]
        rfl
theorem fold_ends (rs : List Row) (k : Option Int) : ∀ (l : List Nat) (st : KI × KI), getO (l.foldl (stepZ rs) st).1 k = accE (getO st.1 k) ((mineR rs k l).filterMap (·.e))
  | [], st => rfl
  | i :: l, st => by
    rw [List.foldl_cons, fold_ends rs k l, mineR_cons]
    cases h : rs[i]? with
    | none => rw [stepZ_none h]; rfl
    | some r =>
      rw [stepZ_some h]
      show accE (getO (endR st.1 i r) k) _ = _
      by_cases hk : lotOf r i = k
      · simp only [hk, if_true]
        unfold endR
        cases he : r.e with
        | none => simp [he]
        | some x =>
          show accE (getO (setO st.1 _ _) k) _ = _
          rw [getO_set, if_pos hk.symm]
          simp only [List.cons_append, List.nil_append, List.filterMap_cons, he, hk]
          rfl
      · simp only [hk, if_false]
        unfold endR
        cases he : r.e with
        | none => rfl
        | some x =>
          show accE (getO (setO st.1 _ _) k) _ = _
          rw [getO_set, if_neg fun z => hk z.symm]
          rfl
theorem mem_mine {rs : List Row} {k : Option Int} {l : List Nat} {r : Row} : r ∈ mineR rs k l ↔ ∃ i ∈ l, rs[i]? = some r ∧ lotOf r i = k := by
  unfold mineR
  rw [List.mem_filterMap]
  constructor
  · rintro ⟨i, m, h⟩
    cases hr : rs[i]? with
    | none => rw [hr] at h; cases h
    | some q =>
      rw [hr] at h
      have h : (if lotOf q i = k then some q else none) = some r := h
      by_cases hk : lotOf q i = k
      · rw [if_pos hk] at h
        cases h
        exact ⟨i, m, hr, hk⟩
      · rw [if_neg hk] at h
        cases h
  · rintro ⟨i, m, h, hk⟩
    refine ⟨i, m, ?_⟩
    rw [h]
    show (if lotOf r i = k then some r else none) = some r
    rw [if_pos hk]
theorem mine_none {rs : List Row} (h : isTold rs none = true) : ∃ r, r ∈ mineR rs none (partsOf rs) := by
  unfold isTold at h
  obtain ⟨r, m, t⟩ := List.any_eq_true.mp h
  obtain ⟨j, hj, ej⟩ := List.mem_iff_getElem.mp m
  rw [Bool.and_eq_true] at t
  obtain ⟨t3, t4⟩ := t
  unfold tells at t3
  rw [Bool.and_eq_true] at t3
  have ej2 : rs[j]? = some r := by rw [List.getElem?_eq_getElem hj, ej]
  refine ⟨r, mem_mine.mpr ⟨j, mem_parts.mpr ⟨r, ej2, by rw [t3.2]; rfl⟩, ej2, ?_⟩⟩
  unfold lotOf
  rw [if_pos t3.1]
  exact of_decide_eq_true t4
theorem init2 (rs : List Row) (k : Option Int) : (getO (initZ rs).2 k).isSome = true ↔ (isTold rs none = true ∧ k = none) := by
  unfold initZ
  by_cases h : isTold rs none = true
  · rw [if_pos h]
    cases k with
    | none => exact ⟨fun _ => ⟨h, rfl⟩, fun _ => rfl⟩
    | some x => exact ⟨fun z => (nomatch z), fun z => (nomatch z.2)⟩
  · rw [if_neg h]
    exact ⟨fun z => (nomatch z), fun z => absurd z.1 h⟩
theorem has_mine (rs : List Row) (k : Option Int) : (getO (foldZ rs (partsOf rs)).2 k).isSome = true ↔ ∃ r, r ∈ mineR rs k (partsOf rs) := by
  unfold foldZ
  rw [foldZ_begins, init2]
  constructor
  · rintro (⟨h, rfl⟩ | ⟨i, m, r, e, lk⟩)
    · exact mine_none h
    · exact ⟨r, mem_mine.mpr ⟨i, m, e, lk⟩⟩
  · rintro ⟨r, m⟩
    obtain ⟨i, mi, e, lk⟩ := mem_mine.mp m
    exact .inr ⟨i, mi, r, e, lk⟩
/-! keys -/
def keysO (b : KI) : List (Option Int) := b.map (·.1)
theorem keys_set (b : KI) (k : Option Int) (v : Int) : keysO (setO b k v) = if k ∈ keysO b then keysO b else keysO b ++ [k] := by
  unfold setO keysO
  have an : ((b.any fun p => decide (p.1 = k)) = true) ↔ k ∈ b.map (·.1) := by
    rw [List.any_eq_true, List.mem_map]
    exact ⟨fun ⟨p, m, e⟩ => ⟨p, m, of_decide_eq_true e⟩, fun ⟨p, m, e⟩ => ⟨p, m, decide_eq_true e⟩⟩
  by_cases h : k ∈ b.map (·.1)
  · rw [if_pos h, if_pos (an.mpr h), List.map_map]
    refine List.map_congr_left fun p _ => ?_
    show (if p.1 = k then (p.1, v) else p).1 = p.1
    split <;> rfl
  · rw [if_neg h, if_neg fun z => h (an.mp z), List.map_append]
    rfl
theorem nodup_set {b : KI} {k : Option Int} {v : Int} (h : (keysO b).Nodup) : (keysO (setO b k v)).Nodup := by
  rw [keys_set]
  split
  · exact h
  · rename_i n
    rw [List.nodup_append]
    exact ⟨h, by simp, fun a ha c hc => by
      rw [List.mem_singleton] at hc
      subst hc
      exact fun z => n (z ▸ ha)⟩
theorem nodup_fold (rs : List Row) : ∀ (l : List Nat) (st : KI × KI), (keysO st.2).Nodup → (keysO (l.foldl (stepZ rs) st).2).Nodup
  | [], st, h => h
  | i :: l, st, h => by
    rw [List.foldl_cons]
    refine nodup_fold rs l _ ?_
    cases hr : rs[i]? with
    | none => rw [stepZ_none hr]; exact h
    | some r => rw [stepZ_some hr]; exact nodup_set h
theorem nodup_begins (rs : List Row) : (keysO (foldZ rs (partsOf rs)).2).Nodup := by
  refine nodup_fold rs _ _ ?_
  unfold initZ
  split <;> decide
theorem mem_keys {b : KI} {k : Option Int} : k ∈ keysO b ↔ (getO b k).isSome = true := by
  refine ⟨getO_mem, fun h => ?_⟩
  unfold getO at h
  rw [Option.isSome_map, List.find?_isSome] at h
  obtain ⟨p, m, e⟩ := h
  exact List.mem_map.mpr ⟨p, m, of_decide_eq_true e⟩
theorem soms_keys (b : KI) : soms b = (keysO b).filterMap id := rfl
theorem mem_soms {b : KI} {x : Int} : x ∈ soms b ↔ (getO b (some x)).isSome = true := by
  rw [soms_keys, List.mem_filterMap, ← mem_keys]
  exact ⟨fun ⟨o, m, e⟩ => (show o = some x from e) ▸ m, fun m => ⟨some x, m, rfl⟩⟩
theorem nodup_somes : ∀ l : List (Option Int), l.Nodup → (l.filterMap id).Nodup
  | [], _ => List.nodup_nil
  | none :: l, h => nodup_somes l (List.nodup_cons.mp h).2
  | some x :: l, h => by
    rw [List.filterMap_cons]
    refine List.nodup_cons.mpr ⟨fun m => ?_, nodup_somes l (List.nodup_cons.mp h).2⟩
    obtain ⟨o, mo, e⟩ := List.mem_filterMap.mp m
    exact (List.nodup_cons.mp h).1 ((show o = some x from e) ▸ mo)
/-- a lot of a part is an index -/
theorem lot_index {rs : List Row} (ok : ∀ r ∈ rs, r.Ok) (nb : firstBad rs = none) {i : Nat} {r : Row} {x : Int} (h : rs[i]? = some r) (hx : lotOf r i = some x) : ∃ n : Nat, x = n ∧ n < rs.length := by
  have hi := (List.getElem?_eq_some_iff.mp h).1
  unfold lotOf at hx
  by_cases g : r.g = true
  · rw [if_pos g] at hx
    obtain ⟨_, _, x0⟩ := (ok r (List.mem_of_getElem? h)).tg x hx
    unfold firstBad at nb
    rw [List.find?_range_eq_none] at nb
    have := nb i hi
    unfold badAt at this
    rw [h] at this
    have this : (!(match r.t with
      | none => false
      | some j => decide ((rs.length : Int) ≤ j) || (match rs[j.toNat]? with
        | some r => r.g
        | none => true))) = true := this
    rw [hx] at this
    have this : (!(decide ((rs.length : Int) ≤ x) || (match rs[x.toNat]? with
      | some r => r.g
      | none => true))) = true := this
    have lt : ¬ (rs.length : Int) ≤ x := fun z => by
      rw [decide_eq_true z] at this
      cases this
    exact ⟨x.toNat, (Int.toNat_of_nonneg x0).symm, by omega⟩
  · rw [if_neg g] at hx
    exact ⟨i, (Option.some.inj hx).symm, hi⟩
def hasM (rs : List Row) (k : Option Int) : Bool := !(mineR rs k (partsOf rs)).isEmpty
theorem hasM_iff {rs : List Row} {k : Option Int} : hasM rs k = true ↔ ∃ r, r ∈ mineR rs k (partsOf rs) := by
  unfold hasM
  cases mineR rs k (partsOf rs) with
  | nil => exact ⟨fun z => (nomatch z), fun ⟨r, m⟩ => (nomatch m)⟩
  | cons r l => exact ⟨fun _ => ⟨r, List.mem_cons_self⟩, fun _ => rfl⟩
theorem puts_sorted {rs : List Row} (ok : ∀ r ∈ rs, r.Ok) (nb : firstBad rs = none) : putsZ (foldZ rs (partsOf rs)).2 = ((List.range rs.length).filter fun (i : Nat) => hasM rs (some (i : Int))).map fun (i : Nat) => (i : Int) := by
  refine (PySem.W.eq_sortI ?_ ?_).symm
  · refine (List.perm_ext_iff_of_nodup ?_ (nodup_somes _ (nodup_begins rs))).mpr fun x => ?_
    · refine List.Pairwise.map _ ?_ (List.nodup_range.filter _)
      intro a b h z
      exact h (Int.ofNat.inj z)
    · show _ ↔ x ∈ soms (foldZ rs (partsOf rs)).2
      rw [mem_soms, has_mine, ← hasM_iff]
      constructor
      · intro m
        obtain ⟨n, mn, rfl⟩ := List.mem_map.mp m
        exact (List.mem_filter.mp mn).2
      · intro h
        obtain ⟨r, m⟩ := hasM_iff.mp h
        obtain ⟨i, _, e, lk⟩ := mem_mine.mp m
        obtain ⟨n, rfl, hn⟩ := lot_index ok nb e lk
        exact List.mem_map.mpr ⟨n, List.mem_filter.mpr ⟨List.mem_range.mpr hn, h⟩, rfl⟩
  · refine List.Pairwise.map _ ?_ ((List.pairwise_lt_range).filter _)
    intro a b h
    omega
theorem lots_eq {rs : List Row} (ok : ∀ r ∈ rs, r.Ok) (nb : firstBad rs = none) : lotsZ (foldZ rs (partsOf rs)).2 = (none :: (List.range rs.length).map fun (i : Nat) => some (i : Int)).filter (hasM rs) := by
  have tail : ((List.range rs.length).map fun (i : Nat) => some (i : Int)).filter (hasM rs) = (putsZ (foldZ rs (partsOf rs)).2).map some := by
    rw [puts_sorted ok nb, List.filter_map, List.map_map]
    rfl
  unfold lotsZ
  rw [List.filter_cons, tail]
  have : (getO (foldZ rs (partsOf rs)).2 none).isSome = hasM rs none := by
    rw [Bool.eq_iff_iff, has_mine, hasM_iff]
  rw [this]
theorem acc_low : ∀ (bs : List Int) (b : Int), accB (some (-1)) (b :: bs) = if 0 ≤ b then accB none (b :: bs) else accB (some (-1)) (b :: bs) := fun bs b => by
  by_cases h : 0 ≤ b
  · rw [if_pos h]
    unfold accB
    rw [List.foldl_cons, List.foldl_cons]
    have e : max2 ((some (-1 : Int)).getD b) b = max2 ((none : Option Int).getD b) b := by
      show (if b > -1 then b else -1) = (if b > b then b else b)
      rw [if_pos (by omega), if_neg (by omega)]
    rw [e]
  · rw [if_neg h]
theorem accE_low : ∀ es : List Int, (∀ e ∈ es, 0 ≤ e) → accE (some (-1)) es = some (-1)
  | [], _ => rfl
  | e :: es, h => by
    unfold accE
    rw [List.foldl_cons]
    have h0 : 0 ≤ e := h e List.mem_cons_self
    have e1 : min2 ((some (-1 : Int)).getD e) e = -1 := by
      show (if e < -1 then e else -1) = -1
      rw [if_neg (by omega)]
    rw [e1]
    exact accE_low es fun x m => h x (List.mem_cons_of_mem _ m)
theorem told_of_mine {rs : List Row} (h : hasM rs none = true) : isTold rs none = true := by
  obtain ⟨r, m⟩ := hasM_iff.mp h
  obtain ⟨i, mi, e, lk⟩ := mem_mine.mp m
  obtain ⟨r', e', p⟩ := mem_parts.mp mi
  rw [e] at e'
  cases e'
  unfold lotOf at lk
  by_cases g : r.g = true
  · rw [if_pos g] at lk
    rw [g] at p
    have p : (r.e.isSome || (false && isTold rs (some (i : Int)))) = true := p
    rw [Bool.false_and, Bool.or_false] at p
    unfold isTold
    refine List.any_eq_true.mpr ⟨r, List.mem_of_getElem? e, ?_⟩
    unfold tells
    rw [g, p, decide_eq_true lk]
    rfl
  · rw [if_neg g] at lk
    cases lk
def zoneM (rs : List Row) (k : Option Int) : Option Int × Int × Int :=
  (k, if k = none then -1 else (accE none ((mineR rs k (partsOf rs)).filterMap (·.e))).getD 0, (accB none ((mineR rs k (partsOf rs)).map (·.b))).getD 0)
theorem zone_eq {rs : List Row} (ok : ∀ r ∈ rs, r.Ok) {k : Option Int} (h : hasM rs k = true) : zoneZ (foldZ rs (partsOf rs)) k = zoneM rs k := by
  unfold zoneZ zoneM foldZ
  rw [fold_begins, fold_ends]
  cases k with
  | some x =>
    have i1 : getO (initZ rs).1 (some x) = none := by unfold initZ; split <;> rfl
    have i2 : getO (initZ rs).2 (some x) = none := by unfold initZ; split <;> rfl
    rw [i1, i2, if_neg (by exact fun z => nomatch z)]
  | none =>
    have tl := told_of_mine h
    have i0 : initZ rs = ([(none, -1)], [(none, -1)]) := by unfold initZ; rw [if_pos tl]
    rw [i0, if_pos rfl]
    have mem : ∀ r ∈ mineR rs none (partsOf rs), r.Ok := fun r m => by
      obtain ⟨i, _, e, _⟩ := mem_mine.mp m
      exact ok r (List.mem_of_getElem? e)
    have b1 : getO [((none : Option Int), (-1 : Int))] none = some (-1) := rfl
    rw [b1]
    have ends : accE (some (-1)) ((mineR rs none (partsOf rs)).filterMap (·.e)) = some (-1) := accE_low _ fun e m => by
      obtain ⟨r, mr, er⟩ := List.mem_filterMap.mp m
      have := (mem r mr).eb e er
      have := (mem r mr).b0
      omega
    rw [ends]
    have : accB (some (-1)) ((mineR rs none (partsOf rs)).map (·.b)) = accB none ((mineR rs none (partsOf rs)).map (·.b)) := by
      unfold hasM at h
      cases hm : mineR rs none (partsOf rs) with
      | nil => rw [hm] at h; cases h
      | cons r l =>
        rw [List.map_cons, acc_low, if_pos (mem r (by rw [hm]; exact List.mem_cons_self)).b0]
    rw [this]
    rfl
/-- the zones are those of the lots that have an ask, in order -/
theorem zones_eq {rs : List Row} (ok : ∀ r ∈ rs, r.Ok) (nb : firstBad rs = none) : zonesOf rs = ((none :: (List.range rs.length).map fun (i : Nat) => some (i : Int)).filter (hasM rs)).map (zoneM rs) := by
  unfold zonesOf
  rw [lots_eq ok nb]
  exact List.map_congr_left fun k m => zone_eq ok (List.mem_filter.mp m).2
theorem accB_spec : ∀ (bs : List Int) (a : Int), ∃ m, accB (some a) bs = some m ∧ (m = a ∨ m ∈ bs) ∧ a ≤ m ∧ ∀ y ∈ bs, y ≤ m
  | [], a => ⟨a, rfl, .inl rfl, Int.le_refl _, fun _ z => nomatch z⟩
  | b :: bs, a => by
    obtain ⟨m, e, i, l, u⟩ := accB_spec bs (max2 a b)
    have h : max2 a b = a ∧ b ≤ a ∨ max2 a b = b ∧ a ≤ b := by
      unfold max2
      by_cases z : b > a
      · rw [if_pos z]; exact .inr ⟨rfl, by omega⟩
      · rw [if_neg z]; exact .inl ⟨rfl, by omega⟩
    refine ⟨m, e, ?_, by omega, fun y my => ?_⟩
    · rcases i with i | i
      · rcases h with h | h
        · exact .inl (i.trans h.1)
        · exact .inr (by rw [i, h.1]; exact List.mem_cons_self)
      · exact .inr (List.mem_cons_of_mem _ i)
    · rcases List.mem_cons.mp my with rfl | my
      · omega
      · exact u y my
theorem accE_spec : ∀ (es : List Int) (a : Int), ∃ m, accE (some a) es = some m ∧ (m = a ∨ m ∈ es) ∧ m ≤ a ∧ ∀ y ∈ es, m ≤ y
  | [], a => ⟨a, rfl, .inl rfl, Int.le_refl _, fun _ z => nomatch z⟩
  | b :: es, a => by
    obtain ⟨m, e, i, l, u⟩ := accE_spec es (min2 a b)
    have h : min2 a b = a ∧ a ≤ b ∨ min2 a b = b ∧ b ≤ a := by
      unfold min2
      by_cases z : b < a
      · rw [if_pos z]; exact .inr ⟨rfl, by omega⟩
      · rw [if_neg z]; exact .inl ⟨rfl, by omega⟩
    refine ⟨m, e, ?_, by omega, fun y my => ?_⟩
    · rcases i with i | i
      · rcases h with h | h
        · exact .inl (i.trans h.1)
        · exact .inr (by rw [i, h.1]; exact List.mem_cons_self)
      · exact .inr (List.mem_cons_of_mem _ i)
    · rcases List.mem_cons.mp my with rfl | my
      · omega
      · exact u y my
theorem accB_max {bs : List Int} {m : Int} (h : m ∈ bs) (u : ∀ y ∈ bs, y ≤ m) : accB none bs = some m := by
  cases bs with
  | nil => cases h
  | cons b bs =>
    obtain ⟨M, e, i, l, v⟩ := accB_spec bs b
    have e0 : accB none (b :: bs) = accB (some b) bs := by
      unfold accB
      rw [List.foldl_cons]
      have : max2 ((none : Option Int).getD b) b = b := by
        show (if b > b then b else b) = b
        split <;> rfl
      rw [this]
    rw [e0, e]
    have h1 : M ≤ m := by
      rcases i with rfl | i
      · exact u _ List.mem_cons_self
      · exact u _ (List.mem_cons_of_mem _ i)
    have h2 : m ≤ M := by
      rcases List.mem_cons.mp h with rfl | h
      · exact l
      · exact v m h
    rw [Int.le_antisymm h1 h2]
theorem accE_min {es : List Int} {m : Int} (h : m ∈ es) (u : ∀ y ∈ es, m ≤ y) : accE none es = some m := by
  cases es with
  | nil => cases h
  | cons b es =>
    obtain ⟨M, e, i, l, v⟩ := accE_spec es b
    have e0 : accE none (b :: es) = accE (some b) es := by
      unfold accE
      rw [List.foldl_cons]
      have : min2 ((none : Option Int).getD b) b = b := by
        show (if b < b then b else b) = b
        split <;> rfl
      rw [this]
    rw [e0, e]
    have h1 : m ≤ M := by
      rcases i with rfl | i
      · exact u _ List.mem_cons_self
      · exact u _ (List.mem_cons_of_mem _ i)
    have h2 : M ≤ m := by
      rcases List.mem_cons.mp h with rfl | h
      · exact l
      · exact v m h
    rw [Int.le_antisymm h1 h2]
/-- of a lot that has an ask, an end is there -/
theorem ends_some {rs : List Row} {k : Option Int} (h : hasM rs k = true) : (mineR rs k (partsOf rs)).filterMap (·.e) ≠ [] := by
  have h1 := (has_mine rs k).mpr (hasM_iff.mp h)
  have h2 := ends_there h1
  cases k with
  | none =>
    obtain ⟨r, m⟩ := mine_none (told_of_mine h)
    obtain ⟨i, mi, e, lk⟩ := mem_mine.mp m
    obtain ⟨r', e', p⟩ := mem_parts.mp mi
    rw [e] at e'
    cases e'
    cases he : r.e with
    | some x =>
      intro z
      have : x ∈ (mineR rs none (partsOf rs)).filterMap (·.e) := List.mem_filterMap.mpr ⟨r, m, he⟩
      rw [z] at this
      cases this
    | none =>
      rw [he] at p
      unfold lotOf at lk
      cases g : r.g with
      | true => rw [g] at p; cases p
      | false => rw [g, if_neg (by decide)] at lk; cases lk
  | some x =>
    unfold foldZ at h2
    rw [fold_ends] at h2
    have i1 : getO (initZ rs).1 (some x) = none := by unfold initZ; split <;> rfl
    rw [i1] at h2
    intro z
    rw [z] at h2
    cases h2
end K36
end

section
set_option Elab.async false
set_option linter.all false
set_option maxRecDepth 100000
set_option maxHeartbeats 4000000
/-! the lot of an ask -/
namespace K36
open PySem L2 KZ
abbrev sLotOf : Stmt := top 23
def spLotOf (K : PySem.W.Frag) (C : Addr) : Sp := fun vs H Q _ => ∃ a rs, ∃ i : Nat, ∃ r, vs = [.ref a, .int i] ∧ Hist K C H a rs ∧ rs[i]? = some r ∧ Q (oV (lotOf r i)) H
section
variable {P : Program} {w : World} {K : PySem.W.Frag} {mg : Str → Option Value} {base : Heap} {C cB cT : Addr}
theorem Hist.at {H : Hp} {a : Addr} {rs : List Row} {i : Nat} {r : Row} (h : Hist K C H a rs) (e : rs[i]? = some r) : ∃ p dx xs, Sq K H a xs ∧ atI xs (i : Int) = some (.ref p) ∧ H p = some (.ins C dx (flds r)) := by
  obtain ⟨ps, sq, lp, hp⟩ := h.sq
  have hi : i < ps.length := by rw [lp]; exact (List.getElem?_eq_some_iff.mp e).1
  have ep : ps[i]? = some ps[i] := List.getElem?_eq_getElem hi
  obtain ⟨dx, ha⟩ := hp i ps[i] r ep e
  exact ⟨ps[i], dx, _, sq, at_nat (by rw [List.getElem?_map, ep]; rfl), ha⟩
theorem scLotOf : FnScope ["asks", "at"] ["asks", "at"] (defScope sLotOf) := ⟨rfl, rfl, rfl, by decide +kernel, rfl, by decide +kernel, by decide +kernel⟩
theorem ok_lotof {f : Addr} {fd : FuncData} (F : Fun K "lot_of" "lot_of" sLotOf f fd) (A : AskC K mg C) : FnOk P w K mg base CX0 1 f fd ["asks", "at"] (spLotOf K C) := by
  refine F.ok scLotOf (fun vs H Q E h => ?_) (fun cdv A' outer s H vs Q E hr h => ?_)
  · obtain ⟨a, rs, i, r, rfl, _⟩ := h
    rfl
  · obtain ⟨a, rs, i, r, rfl, hh, er, q⟩ := h
    refine ⟨_, (pss_one (ps_ret (pe_ifExp (pt_cmpR op_eq (pe_fld (pe_ix (ix_seqK K) (pv 0) (pv 1) (fun _ _ => rfl)) rfl) pe_str (nomark _)) (pv 1) (pe_fld (pe_ix (ix_seqK K) (pv 0) (pv 1) (fun _ _ => rfl)) rfl)))), ?_⟩
    obtain ⟨p, dx, xs, sq, at1, ha⟩ := hh.at er
    refine ⟨.ref a, rfl, .int i, rfl, Sq.ix sq at1 ⟨p, C, dx, flds r, .str (wd r.g), rfl, ha, A.cl, A.nw, rfl, rfl, !r.g, (by cases r.g <;> decide +kernel), ?_⟩⟩
    unfold lotOf at q
    cases hg : r.g with
    | true =>
      rw [hg, if_pos rfl] at q
      exact iteF' ⟨.ref a, rfl, .int i, rfl, Sq.ix sq at1 ⟨p, C, dx, flds r, oV r.t, rfl, ha, A.cl, A.nt, rfl, q⟩⟩
    | false =>
      rw [hg, if_neg (by decide)] at q
      exact iteT' ⟨_, rfl, q⟩
end
end K36
end

section
set_option Elab.async false
set_option linter.all false
set_option maxRecDepth 100000
set_option maxHeartbeats 4000000
/-! gets that ended ahead of their puts -/
namespace K36
open PySem L2 KZ
abbrev sEarly : Stmt := top 24
def isEarly (rs : List Row) (i : Nat) : Bool := match rs[i]? with
  | none => false
  | some r => match r.t with
    | none => false
    | some t => match rs[t.toNat]? with
      | none => false
      | some s => ahead r s
def earlyOf (rs : List Row) : List Nat := (List.range rs.length).filter (isEarly rs)
theorem bad_all {rs : List Row} (nb : firstBad rs = none) {i : Nat} (hi : i < rs.length) : badAt rs i = false := by
  unfold firstBad at nb
  have := List.find?_eq_none.mp nb i (List.mem_range.mpr hi)
  cases h : badAt rs i with
  | false => rfl
  | true => exact absurd h this
theorem told_at {rs : List Row} (ok : ∀ r ∈ rs, r.Ok) (nb : firstBad rs = none) {i : Nat} {r : Row} (er : rs[i]? = some r) {t : Int} (et : r.t = some t) : ∃ k s, t = ((k : Nat) : Int) ∧ rs[k]? = some s ∧ s.g = false := by
  have hi := (List.getElem?_eq_some_iff.mp er).1
  have b := bad_all nb hi
  obtain ⟨_, _, h0⟩ := (ok r (List.mem_of_getElem? er)).tg t et
  unfold badAt at b
  rw [er] at b
  rw [show (some r).bind (·.t) = some t from et] at b
  simp only [Bool.or_eq_false_iff] at b
  cases hs : rs[t.toNat]? with
  | none => rw [hs] at b; exact absurd b.2 (by decide)
  | some s =>
    rw [hs] at b
    exact ⟨t.toNat, s, by omega, hs, b.2⟩
theorem isEarly_of {rs : List Row} {i k : Nat} {r s : Row} (er : rs[i]? = some r) (et : r.t = some (k : Int)) (es : rs[k]? = some s) : isEarly rs i = ahead r s := by
  unfold isEarly
  rw [er]
  show (match r.t with
    | none => false
    | some t => match rs[t.toNat]? with
      | none => false
      | some s => ahead r s) = _
  rw [et]
  show (match rs[(k : Int).toNat]? with
      | none => false
      | some s => ahead r s) = _
  rw [Int.toNat_natCast, es]
theorem isEarly_none {rs : List Row} {i : Nat} {r : Row} (er : rs[i]? = some r) (et : r.t = none) : isEarly rs i = false := by
  unfold isEarly
  rw [er]
  show (match r.t with
    | none => false
    | some t => match rs[t.toNat]? with
      | none => false
      | some s => ahead r s) = _
  rw [et]
def spAheadX (C : Addr) : Sp := fun vs H Q _ => ∃ a r b s, vs = [.ref a, .ref b] ∧ AskAt C H a r ∧ AskAt C H b s ∧ Q (.bl (ahead r s)) H
def spEarly (K : PySem.W.Frag) (C : Addr) : Sp := fun vs H Q _ => ∃ a rs, vs = [.ref a] ∧ Hist K C H a rs ∧ rs.length ≤ 1000 ∧ (∀ r ∈ rs, r.Ok) ∧ firstBad rs = none ∧ ∀ p H', Same H H' → H' p = some (.lst (nats (earlyOf rs))) → Q (.ref p) H'
section
variable {P : Program} {w : World} {K : PySem.W.Frag} {mg : Str → Option Value} {base : Heap} {C cB cT fA : Addr} {dA : FuncData}
theorem scEarly : FnScope ["asks", "at"] ["asks"] (defScope sEarly) := ⟨rfl, rfl, rfl, by decide +kernel, rfl, by decide +kernel, by decide +kernel⟩
theorem ok_early {f : Addr} {fd : FuncData} (F : Fun K "gets_ahead_of_puts" "gets_ahead_of_puts" sEarly f fd) (A : AskC K mg C) (T : B1 mg) (MA : Meth K C "is_ahead" fA) (GA : FnOk P w K mg base CX0 7 fA dA ["self", "other"] (spAheadX C)) (bA : Binds K dA ["self", "other"] []) :
    FnOk P w K mg base CX0 8 f fd ["asks"] (spEarly K C) := by
  refine F.ok scEarly (fun vs H Q E h => ?_) (fun cdv A' outer s H vs Q E hr h => ?_)
  · obtain ⟨a, rs, rfl, _⟩ := h
    rfl
  · obtain ⟨a, rs, rfl, hh, hl, ok, nb, q⟩ := h
    have hr7 : Room 7 _ := hr
    refine ⟨_, (pss_one (ps_ret (pe_lc (own := [("at", 1)]) (g := gName 1) (by rfl) scEarly.nd (pi_range1 (by rfl) T.range (pa_cons (pe_callB call_len (by rfl) T.len PySem.boot_len (pa_cons (pv 0) pa_nil)) pa_nil)) (blkOk_by (own := [("at", 1)]) (N := ["asks", "at"]) (sc := defScope sEarly) (by decide +kernel)) (fun _ _ _ _ _ => pg_name (i := 1) scEarly.nd rfl (Or.inl rfl)) (fun _ _ _ _ _ => pts_one (PW.pt (pw_and (pt_cmpR op_notN (pe_fldK K (pe_ix (ix_seqK K) (pv 0) (pv 1) (fun _ _ => rfl)) rfl) pe_non (nomark _)) (pw_and1 (pt_val (pe_meth (pe_ix (ix_seqK K) (pv 0) (pv 1) (fun _ _ => rfl)) A.cl MA GA hr7 bA .nil pass0 (pa_cons (pe_ix (ix_seqK K) (pv 0) (pe_fldK K (pe_ix (ix_seqK K) (pv 0) (pv 1) (fun _ _ => rfl)) rfl) (fun _ _ => rfl)) pa_nil))))))) (fun _ _ _ _ _ => pv 1)))), ?_⟩
    obtain ⟨ps, sq, h2⟩ := hh.sq
    have nl : (ps.map V.ref).length = rs.length := by rw [List.length_map, h2.1]
    refine ⟨.ref a, rfl, .ref a, (ps.map V.ref).length, rfl, sq.len, ((ps.map V.ref).length : Nat), rfl, by omega, by rw [nl]; omega, fun D hD => ?_⟩
    rw [Int.toNat_natCast, nl]
    refine lc_it (walk_range (lo := 0) (n := rs.length)) (fun i H' => H' = upd H D (.lst (nats ((List.range i).filter (isEarly rs))))) rfl (fun _ _ _ _ => True.intro) ?_ ?_
    · rintro i x H2 H3 hi rfl ⟨rfl, rfl⟩
      show gName 1 (V.int (0 + (i : Int))) _ _ _
      rw [Int.zero_add]
      have er : rs[i]? = some rs[i] := List.getElem?_eq_getElem hi
      obtain ⟨p, dx, xs, sq2, at1, ha⟩ := (hh.mono (same_new (o := .lst (nats ((List.range i).filter (isEarly rs)))) hD)).at er
      have sq3 := sq2
      have nx : nats ((List.range (i + 1)).filter (isEarly rs)) = if isEarly rs i = true then nats ((List.range i).filter (isEarly rs)) ++ [V.int (i : Int)] else nats ((List.range i).filter (isEarly rs)) := by
        rw [List.range_succ, List.filter_append]
        cases c : isEarly rs i with
        | true => rw [if_pos rfl]; simp [nats, c]
        | false => rw [if_neg (by decide)]; simp [c]
      have al : (nats ((List.range i).filter (isEarly rs))).length < sizeLine := by
        have : (nats ((List.range i).filter (isEarly rs))).length ≤ i := by
          unfold nats
          rw [List.length_map]
          exact Nat.le_trans (List.length_filter_le _ _) (by simp)
        exact Nat.lt_of_le_of_lt this (Nat.lt_of_lt_of_le (show i < 1000 by omega) (by decide))
      have isY : isEarly rs i = true → upd (upd H D (.lst (nats ((List.range i).filter (isEarly rs))))) D (.lst (nats ((List.range i).filter (isEarly rs)) ++ [V.int (i : Int)])) = upd H D (.lst (nats ((List.range (i + 1)).filter (isEarly rs)))) := fun z => by
        rw [upd_upd, nx, if_pos z]
      have isN : isEarly rs i = false → upd H D (.lst (nats ((List.range i).filter (isEarly rs)))) = upd H D (.lst (nats ((List.range (i + 1)).filter (isEarly rs)))) := fun z => by
        rw [nx, if_neg (by rw [z]; decide)]
      have fin := isEarly_none (rs := rs) er
      have fin2 := fun (k : Nat) s (et : rs[i].t = some (k : Int)) es => isEarly_of (rs := rs) (k := k) (s := s) er et es
      have tt := fun (t : Int) (et : rs[i].t = some t) => told_at ok nb er et
      generalize rs[i] = r at ha er fin fin2 tt
      refine ⟨rfl, .ref a, rfl, .int i, rfl, Sq.ix sq2 at1 ⟨p, C, dx, flds r, oV r.t, rfl, ha, A.cl, A.nt, rfl, rfl, r.t.isSome, (by cases r.t <;> rfl), ?_⟩⟩
      cases ht : r.t with
      | none => exact iteF' (isN (fin ht))
      | some t =>
        obtain ⟨k, s, rfl, es, _⟩ := tt t ht
        obtain ⟨p2, dx2, xs2, sq4, at2, ha2⟩ := (hh.mono (same_new (o := .lst (nats ((List.range i).filter (isEarly rs)))) hD)).at es
        refine iteT' ⟨.ref a, rfl, .int i, rfl, Sq.ix sq2 at1 ⟨p, dx, flds r, rfl, ha, rfl, .ref a, rfl, .ref a, rfl, .int i, rfl, Sq.ix sq2 at1 ⟨p, C, dx, flds r, oV r.t, rfl, ha, A.cl, A.nt, rfl, ?_⟩⟩⟩
        rw [ht]
        refine Sq.ix sq4 at2 ⟨p, r, p2, s, rfl, ⟨dx, ha⟩, ⟨dx2, ha2⟩, ahead r s, rfl, ?_⟩
        cases hs : ahead r s with
        | true => exact iteT' ⟨_, rfl, _, upd_same, al, isY ((fin2 k s ht es).trans hs)⟩
        | false => exact iteF' (isN ((fin2 k s ht es).trans hs))
    · rintro H2 rfl
      exact q D _ (same_new hD) upd_same
end
end K36
end

section
set_option Elab.async false
set_option linter.all false
set_option maxRecDepth 100000
set_option maxHeartbeats 4000000
/-! two lots each of which should stand ahead of the other -/
namespace K36
open PySem L2 KZ
abbrev sOdds : Stmt := top 25
abbrev Zn : Type := Option Int × Int × Int
def oddB (z u : Zn) : Bool := decide (u.2.1 < z.2.2) && decide (z.2.1 < u.2.2)
def oddAt (zs : List Zn) (i : Nat) : List (Option Int) := match zs[i]? with
  | none => []
  | some z => ((zs.take i).filter (oddB z)).map (·.1)
def spOdds : Sp := fun vs H Q _ => ∃ a zs, vs = [.ref a] ∧ ZonesAt H a zs ∧ zs.length ≤ 1002 ∧ ((∀ i, oddAt zs i = []) → ∀ H', Same H H' → Q .non H') ∧
  (∀ i z x l, zs[i]? = some z → oddAt zs i = x :: l → (∀ j, j < i → oddAt zs j = []) → ∀ p H', Same H H' → H' p = some (.tup [oV x, oV z.1]) → Q (.ref p) H')
theorem cut_to {xs : List V} {i : Nat} (h : i < xs.length) : cutV xs none (some (i : Int)) = xs.take i ∧ ¬ (HT.sIx xs.length 0 none = 0 ∧ HT.sIx xs.length xs.length (some (i : Int)) = xs.length) := by
  have e : HT.sIx xs.length xs.length (some (i : Int)) = i := by
    rw [HT.sIx_nat, Nat.min_eq_left (Nat.le_of_lt h)]
  have e0 : HT.sIx xs.length 0 none = 0 := rfl
  refine ⟨?_, fun z => ?_⟩
  · unfold cutV
    rw [e, e0]
    rfl
  · rw [e] at z
    omega
section
variable {P : Program} {w : World} {K : PySem.W.Frag} {mg : Str → Option Value} {base : Heap} {C cB cT fA : Addr} {dA : FuncData}
theorem scOdds : FnScope ["told", "at", "lot", "least", "greatest", "odd", "other", "end", "begin"] ["told"] (defScope sOdds) := ⟨rfl, rfl, rfl, by decide +kernel, rfl, by decide +kernel, by decide +kernel⟩
theorem ok_odds {f : Addr} {fd : FuncData} (F : Fun K "lots_at_odds" "lots_at_odds" sOdds f fd) (T : B1 mg) : FnOk P w K mg base CX0 1 f fd ["told"] spOdds := by
  refine F.ok scOdds (fun vs H Q E h => ?_) (fun cdv A' outer s H vs Q E hr h => ?_)
  · obtain ⟨a, zs, rfl, _⟩ := h
    rfl
  · obtain ⟨a, zs, rfl, hz, hl, q0, q1⟩ := h
    refine ⟨_, (pss_cons (ps_for PassesOwn.never rfl (pi_range1 (by rfl) T.range (pa_cons (pe_callB call_len (by rfl) T.len PySem.boot_len (pa_cons (pv 0) pa_nil)) pa_nil)) (pg_name (i := 1) scOdds.nd rfl (Or.inl rfl))
(pss_cons (ps_asg (pe_ix (ix_seqK K) (pv 0) (pv 1) (fun _ _ => rfl)) (pg_tup rfl (pgs_cons (pg_name (i := 2) scOdds.nd rfl (Or.inl rfl)) (pgs_cons (pg_name (i := 3) scOdds.nd rfl (Or.inr rfl)) (pgs_cons (pg_name (i := 4) scOdds.nd rfl (Or.inr rfl)) pgs_nil)))))
(pss_cons (ps_setLc (i := 5) (own := [("other", 6), ("end", 7), ("begin", 8)]) (by rfl) scOdds.nd rfl rfl (sw_true rfl rfl rfl (by decide +kernel)) ((pi_sq (pe_slice sl_tup (pv 0) po_none (po_some (pv 1))))) (blkOk_by (own := [("other", 6), ("end", 7), ("begin", 8)]) (N := ["told", "at", "lot", "least", "greatest", "odd", "other", "end", "begin"]) (sc := defScope sOdds) (by decide +kernel)) (fun _ _ _ _ _ => pg_tupK (n := 3) K rfl ((pgs_cons (pg_name (i := 6) scOdds.nd rfl (Or.inl rfl)) (pgs_cons (pg_name (i := 7) scOdds.nd rfl (Or.inl rfl)) (pgs_cons (pg_name (i := 8) scOdds.nd rfl (Or.inl rfl)) pgs_nil))))) (fun _ _ _ _ _ => pts_one (PW.pt (pw_and (pt_cmpR op_lt (pv 7) (pv 4) (nomark _)) (pw_and1 (pt_cmpR op_lt (pv 3) (pv 8) (nomark _)))))) (fun _ _ _ _ _ => pv 6))
(pss_one (ps_if (pt_cmpR op_gt (pe_callB call_len (by rfl) T.len PySem.boot_len (pa_cons (pv 5) pa_nil)) pe_int (nomark _))
(pss_one (ps_ret (pe_tup (pa_cons (pe_ix ix_list (pv 5) pe_int (fun _ _ => rfl)) (pa_cons (pv 2) pa_nil)))))
pss_nil)))))
(pss_one (ps_ret pe_non))), ?_⟩
    obtain ⟨qs, ha, lq, hq⟩ := id hz
    have nl : (qs.map V.ref).length = zs.length := by rw [List.length_map, lq]
    have sq : Sq K H a (qs.map V.ref) := .inr (SqT.of ha)
    refine ⟨.ref a, rfl, .ref a, (qs.map V.ref).length, rfl, sq.len, ((qs.map V.ref).length : Nat), rfl, by omega, by rw [nl]; omega, for_range (n := (qs.map V.ref).length) (fun i σ H' => Same H H' ∧ (∃ x1 x2 x3 x4 x5, σ = [some (.ref a), x1, x2, x3, x4, x5, none, none, none]) ∧ ∀ j, j < i → oddAt zs j = []) ⟨Same.refl H, ⟨_, _, _, _, _, rfl⟩, fun j hj => absurd hj (Nat.not_lt_zero j)⟩ ?_ ?_⟩
    · rintro i σ H1 hi ⟨s1, ⟨x1, x2, x3, x4, x5, rfl⟩, old⟩
      have hi2 : i < zs.length := by omega
      have hiq : i < qs.length := by rw [List.length_map] at hi; exact hi
      have ez : zs[i]? = some zs[i] := List.getElem?_eq_getElem hi2
      have eq : qs[i]? = some qs[i] := List.getElem?_eq_getElem hiq
      have zq := s1 _ _ (hq i qs[i] zs[i] eq ez)
      have at1 : atI (qs.map V.ref) (i : Int) = some (.ref qs[i]) := at_nat (by rw [List.getElem?_map, eq]; rfl)
      have sq1 := Sq.mono s1 sq
      have od : oddAt zs i = ((zs.take i).filter (oddB zs[i])).map (·.1) := by unfold oddAt; rw [ez]
      show gName 1 (V.int (0 + (i : Int))) _ _ _
      rw [Int.zero_add]
      have out := fun x l e => q1 i zs[i] x l ez e old
      generalize zs[i] = z at zq od out
      generalize qs[i] = p at zq at1
      refine ⟨.ref a, rfl, .int i, rfl, Sq.ix sq1 at1 ⟨p, _, rfl, SqT.of zq, rfl, ?_⟩⟩
      refine ⟨_, _, rfl, _, _, rfl, _, _, rfl, rfl, ?_⟩
      have la : qs.length = zs.length := lq
      obtain ⟨ct, nw⟩ := cut_to (xs := qs.map V.ref) (i := i) hi
      refine ⟨.ref a, rfl, .int i, rfl, i, rfl, a, _, rfl, SqT.of (s1 _ _ ha), nw, fun S hS => ?_⟩
      rw [ct]
      have s2 := s1.trans (same_new (o := .tup ((qs.map V.ref).take i)) hS)
      have hS2 : upd H1 S (.tup ((qs.map V.ref).take i)) S = some (.tup ((qs.map V.ref).take i)) := upd_same
      generalize upd H1 S (.tup ((qs.map V.ref).take i)) = H2 at s2 hS2 ⊢
      refine ⟨S, _, rfl, .inr (SqT.of hS2), fun J G wk hG D hD => ?_⟩
      refine lc_it wk (fun k H' => H' = upd H2 D (.lst ((((zs.take k).filter (oddB z)).map fun u => oV u.1)))) rfl (fun i H' _ e => hG _ (by rw [e]; exact same_new hD)) ?_ ?_
      · rintro k x H3 H4 hk rfl ⟨rfl, hx⟩
        have hk2 : k < i := by rw [List.length_take] at hk; omega
        have hkz : k < zs.length := by omega
        have hkq : k < qs.length := by omega
        have ex : x = .ref qs[k] := by
          rw [List.getElem?_take_of_lt hk2, List.getElem?_map, List.getElem?_eq_getElem hkq] at hx
          exact (Option.some.inj hx).symm
        subst ex
        have zk := (s2.trans (same_new (o := .lst ((((zs.take k).filter (oddB z)).map fun u => oV u.1))) hD)) _ _ (hq k qs[k] zs[k] (List.getElem?_eq_getElem hkq) (List.getElem?_eq_getElem hkz))
        have tk : (zs.take (k + 1)).filter (oddB z) = (zs.take k).filter (oddB z) ++ if oddB z zs[k] = true then [zs[k]] else [] := by
          rw [List.take_add_one, List.getElem?_eq_getElem hkz, List.filter_append]
          congr 1
          show List.filter _ [zs[k]] = _
          rw [List.filter_cons]
          rfl
        rw [tk]
        have ln : (((zs.take k).filter (oddB z)).map fun u => oV u.1).length < sizeLine := by
          rw [List.length_map]
          refine Nat.lt_of_le_of_lt (Nat.le_trans (List.length_filter_le _ _) (show _ ≤ 1002 from ?_)) (by decide)
          rw [List.length_take]
          omega
        generalize zs[k] = u at zk ⊢
        generalize (zs.take k).filter (oddB z) = us at zk ln ⊢
        refine ⟨_, _, rfl, SqT.of zk, rfl, _, _, rfl, _, _, rfl, _, _, rfl, rfl, rfl, ?_⟩
        refine ⟨.int u.2.1, rfl, .int z.2.2, rfl, _, _, rfl, rfl, decide (u.2.1 < z.2.2), rfl, ?_⟩
        have ob : oddB z u = (decide (u.2.1 < z.2.2) && decide (z.2.1 < u.2.2)) := rfl
        have no : oddB z u = false → upd H2 D (.lst (us.map fun u => oV u.1)) = upd H2 D (.lst ((us ++ if oddB z u = true then [u] else []).map fun u => oV u.1)) := fun e => by
          rw [e, if_neg (by decide), List.append_nil]
        cases c1 : decide (u.2.1 < z.2.2) with
        | false =>
          refine iteF' (iteF' (no ?_))
          rw [ob, c1]
          rfl
        | true =>
          refine iteT' ⟨.int z.2.1, rfl, .int u.2.2, rfl, _, _, rfl, rfl, decide (z.2.1 < u.2.2), rfl, ?_⟩
          cases c2 : decide (z.2.1 < u.2.2) with
          | false =>
            refine iteF' (no ?_)
            rw [ob, c1, c2]
            rfl
          | true =>
            refine iteT' ⟨_, rfl, _, upd_same, ln, ?_⟩
            rw [upd_upd, ob, c1, c2, if_pos (show (true && true) = true from rfl), List.map_append]
            rfl
      · rintro H3 rfl
        have e0 : ((zs.take ((qs.map V.ref).take i).length).filter (oddB z)).map (fun u => oV u.1) = (oddAt zs i).map oV := by
          rw [od, List.map_map, List.length_take, Nat.min_eq_left (Nat.le_of_lt hi)]
          rfl
        rw [e0]
        have s3 := s2.trans (same_new (o := .lst ((oddAt zs i).map oV)) hD)
        have hD3 : upd H2 D (.lst ((oddAt zs i).map oV)) D = some (.lst ((oddAt zs i).map oV)) := upd_same
        generalize upd H2 D (.lst ((oddAt zs i).map oV)) = H3 at s3 hD3 ⊢
        generalize ho : oddAt zs i = os at hD3 out
        refine ⟨.ref D, rfl, .ref D, (os.map oV).length, rfl, .inl ⟨_, SqL.of hD3, rfl⟩, _, _, rfl, rfl, _, rfl, ?_⟩
        rw [List.length_map, show decide ((0 : Int) < (os.length : Nat)) = !os.isEmpty from by cases os <;> simp]
        cases os with
        | nil =>
          refine iteF' ⟨s3, ⟨_, _, _, _, _, rfl⟩, fun j hj => ?_⟩
          by_cases h : j < i
          · exact old j h
          · rw [show j = i by omega]
            exact ho
        | cons x l =>
          refine iteT' ⟨.ref D, rfl, D, _, 0, oV x, rfl, rfl, SqL.of hD3, at_nat (i := 0) (show (List.map oV (x :: l))[0]? = some (oV x) from rfl), oV z.1, rfl, (by show 2 ≤ sizeLine; decide), fun p hp => ?_⟩
          exact out x l rfl p _ (s3.trans (same_new hp)) upd_same
    · rintro σ H1 ⟨s1, _, old⟩
      exact q0 (fun i => by
        by_cases h : i < zs.length
        · exact old i (by rw [nl]; exact h)
        · unfold oddAt; rw [List.getElem?_eq_none (by omega)]) H1 s1
end
end K36
end

section
set_option Elab.async false
set_option linter.all false
set_option maxRecDepth 100000
set_option maxHeartbeats 4000000
/-! whether a lot can be the last one -/
namespace K36
open PySem L2 KZ
abbrev sCanLast : Stmt := top 28
def ZoneAt (H : Hp) (q : Addr) (z : Zn) : Prop := H q = some (.tup [oV z.1, .int z.2.1, .int z.2.2])
theorem eq_oV (o u : Option Int) : decide (oV o = oV u) = decide (o = u) := by
  by_cases h : o = u
  · rw [decide_eq_true h, decide_eq_true (by rw [h])]
  · rw [decide_eq_false h, decide_eq_false fun z => h ?_]
    cases o <;> cases u <;> first | rfl | (cases z; done) | (cases z; rfl)
def lastB (z u : Zn) : Bool := decide (u.1 = z.1) || decide (u.2.2 ≤ z.2.1)
def canLast (zs : List Zn) (z : Zn) : Bool := zs.all (lastB z)
def spCanLast : Sp := fun vs H Q _ => ∃ a zs q z, vs = [.ref a, .ref q] ∧ ZonesAt H a zs ∧ zs.length ≤ 1002 ∧ ZoneAt H q z ∧ ∀ H', Same H H' → Q (.bl (canLast zs z)) H'
section
variable {P : Program} {w : World} {K : PySem.W.Frag} {mg : Str → Option Value} {base : Heap} {C cB cT fA : Addr} {dA : FuncData}
theorem scCanLast : FnScope ["told", "row", "lot", "_", "greatest"] ["told", "row"] (defScope sCanLast) := ⟨rfl, rfl, rfl, by decide +kernel, rfl, by decide +kernel, by decide +kernel⟩
theorem ok_canlast {f : Addr} {fd : FuncData} (F : Fun K "can_be_last" "can_be_last" sCanLast f fd) (T : B1 mg) : FnOk P w K mg base CX0 1 f fd ["told", "row"] spCanLast := by
  refine F.ok scCanLast (fun vs H Q E h => ?_) (fun cdv A' outer s H vs Q E hr h => ?_)
  · obtain ⟨a, zs, q, z, rfl, _⟩ := h
    rfl
  · obtain ⟨a, zs, q, z, rfl, hz, hl, hq0, q0⟩ := h
    refine ⟨_, (pss_one (ps_ret (pe_callB (cr_all rfl) (by rfl) T.all (by decide +kernel) (pa_cons (pe_lc (own := [("lot", 2), ("_", 3), ("greatest", 4)]) (by rfl) scCanLast.nd (pi_sq (pv 0)) (blkOk_by (own := [("lot", 2), ("_", 3), ("greatest", 4)]) (N := ["told", "row", "lot", "_", "greatest"]) (sc := defScope sCanLast) (by decide +kernel)) (fun _ _ _ _ _ => pg_tupK (n := 3) K rfl ((pgs_cons (pg_name (i := 2) scCanLast.nd rfl (Or.inl rfl)) (pgs_cons (pg_name (i := 3) scCanLast.nd rfl (Or.inl rfl)) (pgs_cons (pg_name (i := 4) scCanLast.nd rfl (Or.inl rfl)) pgs_nil))))) (fun _ _ _ _ _ => pts_one (pt_cmpR op_ne (pv 2) (pe_ix (ix_seqK K) (pv 1) pe_int (fun _ _ => rfl)) (nomark _))) (fun _ _ _ _ _ => pe_cmpR op_ge (pe_ix (ix_seqK K) (pv 1) pe_int (fun _ _ => rfl)) (pv 4) (nomark _))) pa_nil)))), ?_⟩
    obtain ⟨qs, ha, lq, hq⟩ := id hz
    refine ⟨.ref a, rfl, a, _, rfl, .inr (SqT.of ha), fun J G wk hG D hD => ?_⟩
    refine lc_it wk (fun k H' => H' = upd H D (.lst (((zs.take k).filter (fun u => !decide (u.1 = z.1))).map fun u => V.bl (decide (u.2.2 ≤ z.2.1))))) rfl (fun i H' _ e => hG _ (by rw [e]; exact same_new hD)) ?_ ?_
    · rintro k x H3 H4 hk rfl ⟨rfl, hx⟩
      have hkq : k < qs.length := by rw [List.length_map] at hk; exact hk
      have hkz : k < zs.length := by omega
      have ex : x = .ref qs[k] := by
        rw [List.getElem?_map, List.getElem?_eq_getElem hkq] at hx
        exact (Option.some.inj hx).symm
      subst ex
      have sD := same_new (o := .lst (((zs.take k).filter (fun u => !decide (u.1 = z.1))).map fun u => V.bl (decide (u.2.2 ≤ z.2.1)))) hD
      have zk := sD _ _ (hq k qs[k] zs[k] (List.getElem?_eq_getElem hkq) (List.getElem?_eq_getElem hkz))
      have zq : Sq K _ q _ := .inr (SqT.of (sD _ _ hq0))
      have tk : (zs.take (k + 1)).filter (fun u => !decide (u.1 = z.1)) = (zs.take k).filter (fun u => !decide (u.1 = z.1)) ++ if (!decide (zs[k].1 = z.1)) = true then [zs[k]] else [] := by
        rw [List.take_add_one, List.getElem?_eq_getElem hkz, List.filter_append]
        congr 1
        show List.filter _ [zs[k]] = _
        rw [List.filter_cons]
        rfl
      rw [tk]
      have ln : (((zs.take k).filter (fun u => !decide (u.1 = z.1))).map fun u => V.bl (decide (u.2.2 ≤ z.2.1))).length < sizeLine := by
        rw [List.length_map]
        refine Nat.lt_of_le_of_lt (Nat.le_trans (List.length_filter_le _ _) (show _ ≤ 1002 from ?_)) (by decide)
        rw [List.length_take]
        omega
      generalize zs[k] = u at zk ⊢
      generalize (zs.take k).filter (fun u => !decide (u.1 = z.1)) = us at zk ln zq ⊢
      refine ⟨_, _, rfl, SqT.of zk, rfl, _, _, rfl, _, _, rfl, _, _, rfl, rfl, rfl, ?_⟩
      refine ⟨oV u.1, rfl, .ref q, rfl, Sq.ix zq (show atI _ 0 = some (oV z.1) from at_nat (i := 0) rfl) ⟨(by cases u.1 <;> cases z.1 <;> rfl), !decide (u.1 = z.1), ?_, ?_⟩⟩
      · rw [← eq_oV]
      cases c : decide (u.1 = z.1) with
      | true =>
        refine iteF' ?_
        show _ = _
        rw [if_neg (by decide), List.append_nil]
      | false =>
        refine iteT' ⟨.ref q, rfl, Sq.ix zq (show atI _ 1 = some (.int z.2.1) from at_nat (i := 1) rfl) ⟨.int u.2.2, rfl, _, _, rfl, rfl, _, upd_same, ln, ?_⟩⟩
        rw [upd_upd, if_pos (show (!false) = true from rfl), List.map_append]
        rfl
    · rintro H3 rfl
      have e0 : ((zs.take (qs.map V.ref).length).filter (fun u => !decide (u.1 = z.1))).map (fun u => V.bl (decide (u.2.2 ≤ z.2.1))) = ((zs.filter (fun u => !decide (u.1 = z.1))).map fun u => decide (u.2.2 ≤ z.2.1)).map V.bl := by
        rw [List.length_map, lq, List.take_of_length_le (Nat.le_refl _), List.map_map]
        rfl
      rw [e0]
      refine ⟨D, _, rfl, SqL.of upd_same, ?_⟩
      have e1 : ((zs.filter (fun u => !decide (u.1 = z.1))).map fun u => decide (u.2.2 ≤ z.2.1)).all id = canLast zs z := by
        unfold canLast
        rw [List.all_map, List.all_filter]
        congr 1
        funext u
        unfold lastB
        cases decide (u.1 = z.1) <;> rfl
      rw [e1]
      exact q0 _ (same_new hD)
end
end K36
end

section
set_option Elab.async false
set_option linter.all false
set_option maxRecDepth 100000
set_option maxHeartbeats 4000000
/-! whether a row of lots leads from one to another -/
namespace K36
open PySem L2 KZ
abbrev sLotAhead : Stmt := top 27
/-- to which zones a row leads, the first one too -/
inductive ZR (zs : List Zn) (x : Zn) : Zn → Prop where
  | one : ZR zs x x
  | more {u v : Zn} : ZR zs x u → v ∈ zs → u.2.1 < v.2.2 → ZR zs x v
def Leads (zs : List Zn) (x y : Zn) : Prop := ∃ u, ZR zs x u ∧ u.2.1 < y.2.2
def kF (f : Zn → Int) (zs : List Zn) : KI := zs.foldl (fun l u => setO l u.1 (f u)) []
theorem kF_get {f : Zn → Int} : ∀ {zs : List Zn} {l : KI} {z : Zn}, (∀ u v, u ∈ zs → v ∈ zs → u.1 = v.1 → f u = f v) → z ∈ zs → getO (zs.foldl (fun l u => setO l u.1 (f u)) l) z.1 = some (f z)
  | u :: zs, l, z, hc, hz => by
    rw [List.foldl_cons]
    by_cases h : ∃ v, v ∈ zs ∧ v.1 = z.1
    · obtain ⟨v, mv, e⟩ := h
      rw [← e, kF_get (fun a b ma mb => hc a b (List.mem_cons_of_mem _ ma) (List.mem_cons_of_mem _ mb)) mv, hc v z (List.mem_cons_of_mem _ mv) hz e]
    · have no : ∀ v, v ∈ zs → v.1 ≠ z.1 := fun v mv e => h ⟨v, mv, e⟩
      have e : z = u := by
        rcases List.mem_cons.mp hz with e | m
        · exact e
        · exact absurd rfl (no z m)
      subst e
      have skip : ∀ (ys : List Zn) (l : KI), (∀ v, v ∈ ys → v.1 ≠ z.1) → getO (ys.foldl (fun l u => setO l u.1 (f u)) l) z.1 = getO l z.1 := fun ys => by
        induction ys with
        | nil => exact fun _ _ => rfl
        | cons y ys ih =>
          intro l n
          rw [List.foldl_cons, ih _ fun v mv => n v (List.mem_cons_of_mem _ mv), getO_set, if_neg fun e => n y List.mem_cons_self e.symm]
      rw [skip zs _ no, getO_set, if_pos rfl]
theorem kF_len (f : Zn → Int) : ∀ (zs : List Zn) (l : KI), (zs.foldl (fun l u => setO l u.1 (f u)) l).length ≤ l.length + zs.length
  | [], l => by simp
  | u :: zs, l => by
    rw [List.foldl_cons]
    have h1 := kF_len f zs (setO l u.1 (f u))
    have h2 := setO_len l u.1 (f u)
    rw [List.length_cons]
    omega
theorem fl_lt {p q : Zn → Bool} (h : ∀ u, p u = true → q u = true) : ∀ {zs : List Zn} {v : Zn}, v ∈ zs → q v = true → p v = false → (zs.filter p).length < (zs.filter q).length
  | u :: zs, v, m, hq, hp => by
    have le : ∀ ys : List Zn, (ys.filter p).length ≤ (ys.filter q).length := fun ys => by
      induction ys with
      | nil => exact Nat.le_refl _
      | cons y ys ih =>
        rw [List.filter_cons, List.filter_cons]
        cases c : p y with
        | true => rw [h y c]; simpa using ih
        | false =>
          cases q y with
          | true => simp only [Bool.false_eq_true, if_false, if_true, List.length_cons]; omega
          | false => simpa using ih
    rw [List.filter_cons, List.filter_cons]
    rcases List.mem_cons.mp m with rfl | m
    · rw [hp, hq]
      have := le zs
      simp only [Bool.false_eq_true, if_false, if_true, List.length_cons]
      omega
    · have ih := fl_lt h m hq hp
      cases c : p u with
      | true => rw [h u c]; simpa using ih
      | false =>
        cases q u with
        | true => simp only [Bool.false_eq_true, if_false, if_true, List.length_cons]; omega
        | false => simpa using ih
def boundOf (zs : List Zn) (σ : L2.St) : Nat := match σ[9]? with
  | some (some (V.int b)) => (zs.filter fun u => decide (u.2.1 < b)).length
  | _ => 0
theorem leads_iff {zs : List Zn} {x y u : Zn} {b : Int} (hu : ZR zs x u) (eb : u.2.1 = b) (cl : ∀ v, v ∈ zs → b < v.2.2 → b ≤ v.2.1) (hx : b ≤ x.2.1) : decide (b < y.2.2) = true ↔ Leads zs x y := by
  have low : ∀ v, ZR zs x v → b ≤ v.2.1 := fun v hv => by
    induction hv with
    | one => exact hx
    | more _ mv lt ih => exact cl _ mv (by omega)
  refine ⟨fun h => ⟨u, hu, by rw [eb]; exact of_decide_eq_true h⟩, fun ⟨v, hv, lt⟩ => decide_eq_true ?_⟩
  have := low v hv
  omega
def spLotAhead : Sp := fun vs H Q _ => ∃ a zs x y, vs = [.ref a, oV x.1, oV y.1] ∧ ZonesAt H a zs ∧ zs.length ≤ 1002 ∧ (∀ u v, u ∈ zs → v ∈ zs → u.1 = v.1 → u = v) ∧ x ∈ zs ∧ y ∈ zs ∧
  ∀ b H', (b = true ↔ Leads zs x y) → Same H H' → Q (.bl b) H'
section
variable {P : Program} {w : World} {K : PySem.W.Frag} {mg : Str → Option Value} {base : Heap} {C cB cT fA : Addr} {dA : FuncData}
theorem scAheadL : FnScope ["told", "one", "other", "begins", "lot", "_", "greatest", "ends", "least", "bound", "further"] ["told", "one", "other"] (defScope sLotAhead) := ⟨rfl, rfl, rfl, by decide +kernel, rfl, by decide +kernel, by decide +kernel⟩
theorem ok_lotahead {f : Addr} {fd : FuncData} (F : Fun K "is_lot_ahead" "is_lot_ahead" sLotAhead f fd) (T : B1 mg) : FnOk P w K mg base CX0 1 f fd ["told", "one", "other"] spLotAhead := by
  refine F.ok scAheadL (fun vs H Q E h => ?_) (fun cdv A' outer s H vs Q E hr h => ?_)
  · obtain ⟨a, zs, x, y, rfl, _⟩ := h
    rfl
  · obtain ⟨a, zs, x, y, rfl, hz, hl, inj, mx, my, q⟩ := h
    refine ⟨_, (pss_cons (ps_setDcN (i := 3) (own := [("lot", 4), ("_", 5), ("greatest", 6)]) (by rfl) scAheadL.nd rfl rfl (sw_trueD rfl rfl rfl (by decide +kernel)) (pi_sq (pv 0)) (blkOk_by (own := [("lot", 4), ("_", 5), ("greatest", 6)]) (N := ["told", "one", "other", "begins", "lot", "_", "greatest", "ends", "least", "bound", "further"]) (sc := defScope sLotAhead) (by decide +kernel)) (fun _ _ _ _ _ => pg_tupK (n := 3) K rfl ((pgs_cons (pg_name (i := 4) scAheadL.nd rfl (Or.inl rfl)) (pgs_cons (pg_name (i := 5) scAheadL.nd rfl (Or.inl rfl)) (pgs_cons (pg_name (i := 6) scAheadL.nd rfl (Or.inl rfl)) pgs_nil))))) (fun _ _ _ _ _ => pts_nil) (fun _ _ _ _ _ => pv 4) (fun _ _ _ _ _ => pv 6))
(pss_cons (ps_setDcN (i := 7) (own := [("lot", 4), ("least", 8), ("_", 5)]) (by rfl) scAheadL.nd rfl rfl (sw_trueD rfl rfl rfl (by decide +kernel)) (pi_sq (pv 0)) (blkOk_by (own := [("lot", 4), ("least", 8), ("_", 5)]) (N := ["told", "one", "other", "begins", "lot", "_", "greatest", "ends", "least", "bound", "further"]) (sc := defScope sLotAhead) (by decide +kernel)) (fun _ _ _ _ _ => pg_tupK (n := 3) K rfl ((pgs_cons (pg_name (i := 4) scAheadL.nd rfl (Or.inl rfl)) (pgs_cons (pg_name (i := 8) scAheadL.nd rfl (Or.inl rfl)) (pgs_cons (pg_name (i := 5) scAheadL.nd rfl (Or.inl rfl)) pgs_nil))))) (fun _ _ _ _ _ => pts_nil) (fun _ _ _ _ _ => pv 4) (fun _ _ _ _ _ => pv 8))
(pss_cons (ps_set (i := 9) scAheadL.nd rfl (Or.inr rfl) (pe_ngetK P w (pv 7) (pv 1) (fun _ _ => rfl)))
(pss_one (ps_while PassesOwn.never (pt_val pe_bl)
(pss_cons (ps_set (i := 10) scAheadL.nd rfl (Or.inl rfl) (pe_callB (cr_min rfl) (by rfl) T.min (by decide +kernel) (pa_cons (pe_op op_cat (pe_lst (pa_cons (pv 9) pa_nil)) (pe_lc (own := [("_", 5), ("least", 8), ("greatest", 6)]) (by rfl) scAheadL.nd (pi_sq (pv 0)) (blkOk_by (own := [("_", 5), ("least", 8), ("greatest", 6)]) (N := ["told", "one", "other", "begins", "lot", "_", "greatest", "ends", "least", "bound", "further"]) (sc := defScope sLotAhead) (by decide +kernel)) (fun _ _ _ _ _ => pg_tupK (n := 3) K rfl ((pgs_cons (pg_name (i := 5) scAheadL.nd rfl (Or.inl rfl)) (pgs_cons (pg_name (i := 8) scAheadL.nd rfl (Or.inl rfl)) (pgs_cons (pg_name (i := 6) scAheadL.nd rfl (Or.inl rfl)) pgs_nil))))) (fun _ _ _ _ _ => pts_one (pt_cmpR op_gt (pv 6) (pv 9) (nomark _))) (fun _ _ _ _ _ => pv 8))) pa_nil)))
(pss_cons (ps_if (pt_cmpR op_eq (pv 10) (pv 9) (nomark _))
(pss_one (ps_ret (pe_cmpR op_gt (pe_ngetK P w (pv 3) (pv 2) (fun _ _ => rfl)) (pv 9) (nomark _))))
pss_nil)
(pss_one (ps_set (i := 9) scAheadL.nd rfl (Or.inr rfl) (pv 10)))))))))), ?_⟩
    obtain ⟨qs, ha, lq, hq⟩ := id hz
    refine ⟨.ref a, rfl, a, _, rfl, .inr (SqT.of ha), fun J G wk hG D hD => ?_⟩
    refine dn_it wk (fun i H' => H' = upd H D (DN P w D (iv (kF (fun u : Zn => u.2.2) (zs.take i))))) rfl (fun i H' _ e => hG _ (by rw [e]; exact same_new hD)) ?_ ?_
    · rintro k x1 H3 H4 hk rfl ⟨rfl, hx⟩
      have hkq : k < qs.length := by rw [List.length_map] at hk; exact hk
      have hkz : k < zs.length := by omega
      have ex : x1 = .ref qs[k] := by
        rw [List.getElem?_map, List.getElem?_eq_getElem hkq] at hx
        exact (Option.some.inj hx).symm
      subst ex
      have zk := (same_new (o := DN P w D (iv (kF (fun u : Zn => u.2.2) (zs.take k)))) hD) _ _ (hq k qs[k] zs[k] (List.getElem?_eq_getElem hkq) (List.getElem?_eq_getElem hkz))
      have tk : kF (fun u : Zn => u.2.2) (zs.take (k + 1)) = setO (kF (fun u : Zn => u.2.2) (zs.take k)) zs[k].1 ((fun u : Zn => u.2.2) zs[k]) := by
        unfold kF
        rw [List.take_add_one, List.getElem?_eq_getElem hkz, List.foldl_append]
        rfl
      have ln : (iv (kF (fun u : Zn => u.2.2) (zs.take k))).length < sizeLine := by
        rw [iv_len]
        have h1 := kF_len (fun u : Zn => u.2.2) (zs.take k) []
        rw [List.length_take] at h1
        refine Nat.lt_of_le_of_lt (show _ ≤ 1002 from ?_) (by decide)
        have h2 : (kF (fun u : Zn => u.2.2) (zs.take k)).length ≤ ([] : KI).length + min k zs.length := h1
        simp only [List.length_nil] at h2
        omega
      rw [tk]
      generalize zs[k] = u at zk ⊢
      generalize kF (fun u : Zn => u.2.2) (zs.take k) = us at zk ln ⊢
      refine ⟨_, _, rfl, SqT.of zk, rfl, _, _, rfl, _, _, rfl, _, _, rfl, rfl, rfl, ?_⟩
      refine yes_go ⟨oV u.1, rfl, _, rfl, iv us, nk u.1, (nk_v u.1).symm, upd_same, ln, ?_⟩
      rw [upd_upd, iv_put]
      rfl
    rintro H2 rfl
    rw [List.length_map, lq, List.take_of_length_le (Nat.le_refl _)]
    have s1 : Same H (upd H D (DN P w D (iv (kF (fun u : Zn => u.2.2) zs)))) := same_new hD
    have h1 : upd H D (DN P w D (iv (kF (fun u : Zn => u.2.2) zs))) D = some (DN P w D (iv (kF (fun u : Zn => u.2.2) zs))) := upd_same
    generalize upd H D (DN P w D (iv (kF (fun u : Zn => u.2.2) zs))) = H1 at s1 h1 ⊢
    replace ha := s1 _ _ ha
    replace hq : ∀ (i : Nat) q z, qs[i]? = some q → zs[i]? = some z → H1 q = some (.tup [oV z.1, .int z.2.1, .int z.2.2]) := fun i q z e1 e2 => s1 _ _ (hq i q z e1 e2)
    refine ⟨.ref a, rfl, a, _, rfl, .inr (SqT.of ha), fun J G wk hG G2 hG2 => ?_⟩
    refine dn_it wk (fun i H' => H' = upd H1 G2 (DN P w G2 (iv (kF (fun u : Zn => u.2.1) (zs.take i))))) rfl (fun i H' _ e => hG _ (by rw [e]; exact same_new hG2)) ?_ ?_
    · rintro k x1 H3 H4 hk rfl ⟨rfl, hx⟩
      have hkq : k < qs.length := by rw [List.length_map] at hk; exact hk
      have hkz : k < zs.length := by omega
      have ex : x1 = .ref qs[k] := by
        rw [List.getElem?_map, List.getElem?_eq_getElem hkq] at hx
        exact (Option.some.inj hx).symm
      subst ex
      have zk := (same_new (o := DN P w G2 (iv (kF (fun u : Zn => u.2.1) (zs.take k)))) hG2) _ _ (hq k qs[k] zs[k] (List.getElem?_eq_getElem hkq) (List.getElem?_eq_getElem hkz))
      have tk : kF (fun u : Zn => u.2.1) (zs.take (k + 1)) = setO (kF (fun u : Zn => u.2.1) (zs.take k)) zs[k].1 ((fun u : Zn => u.2.1) zs[k]) := by
        unfold kF
        rw [List.take_add_one, List.getElem?_eq_getElem hkz, List.foldl_append]
        rfl
      have ln : (iv (kF (fun u : Zn => u.2.1) (zs.take k))).length < sizeLine := by
        rw [iv_len]
        have h1 := kF_len (fun u : Zn => u.2.1) (zs.take k) []
        rw [List.length_take] at h1
        refine Nat.lt_of_le_of_lt (show _ ≤ 1002 from ?_) (by decide)
        have h2 : (kF (fun u : Zn => u.2.1) (zs.take k)).length ≤ ([] : KI).length + min k zs.length := h1
        simp only [List.length_nil] at h2
        omega
      rw [tk]
      generalize zs[k] = u at zk ⊢
      generalize kF (fun u : Zn => u.2.1) (zs.take k) = us at zk ln ⊢
      refine ⟨_, _, rfl, SqT.of zk, rfl, _, _, rfl, _, _, rfl, _, _, rfl, rfl, rfl, ?_⟩
      refine yes_go ⟨oV u.1, rfl, _, rfl, iv us, nk u.1, (nk_v u.1).symm, upd_same, ln, ?_⟩
      rw [upd_upd, iv_put]
      rfl
    rintro H2 rfl
    rw [List.length_map, lq, List.take_of_length_le (Nat.le_refl _)]
    have s2 : Same H (upd H1 G2 (DN P w G2 (iv (kF (fun u : Zn => u.2.1) zs)))) := s1.trans (same_new hG2)
    have h2 : upd H1 G2 (DN P w G2 (iv (kF (fun u : Zn => u.2.1) zs))) G2 = some (DN P w G2 (iv (kF (fun u : Zn => u.2.1) zs))) := upd_same
    have h12 := same_new (o := DN P w G2 (iv (kF (fun u : Zn => u.2.1) zs))) hG2 _ _ h1
    replace ha := same_new (o := DN P w G2 (iv (kF (fun u : Zn => u.2.1) zs))) hG2 _ _ ha
    replace hq : ∀ (i : Nat) q z, qs[i]? = some q → zs[i]? = some z → upd H1 G2 (DN P w G2 (iv (kF (fun u : Zn => u.2.1) zs))) q = some (.tup [oV z.1, .int z.2.1, .int z.2.2]) := fun i q z e1 e2 => same_new (o := DN P w G2 (iv (kF (fun u : Zn => u.2.1) zs))) hG2 _ _ (hq i q z e1 e2)
    generalize upd H1 G2 (DN P w G2 (iv (kF (fun u : Zn => u.2.1) zs))) = H2 at s2 h2 h12 ha hq ⊢
    have gx : valV (iv (kF (fun u : Zn => u.2.1) zs)) (nk x.1) = some (.int x.2.1) := by
      rw [iv_get, show getO (kF (fun u : Zn => u.2.1) zs) x.1 = some x.2.1 from kF_get (fun u v mu mv e => by rw [inj u v mu mv e]) mx]
      rfl
    have gy : valV (iv (kF (fun u : Zn => u.2.2) zs)) (nk y.1) = some (.int y.2.2) := by
      rw [iv_get, show getO (kF (fun u : Zn => u.2.2) zs) y.1 = some y.2.2 from kF_get (fun u v mu mv e => by rw [inj u v mu mv e]) my]
      rfl
    refine ⟨.ref G2, rfl, oV x.1, rfl, G2, _, nk x.1, .int x.2.1, rfl, .inl h2, (nk_v x.1).symm, gx, ?_⟩
    refine while_by (fun σ H' => Same H2 H' ∧ ∃ x10 b, σ = [some (.ref a), some (oV x.1), some (oV y.1), some (.ref D), none, none, none, some (.ref G2), none, some (.int b), x10] ∧ b ≤ x.2.1 ∧ ∃ u, ZR zs x u ∧ u.2.1 = b) (fun σ _ => boundOf zs σ) ⟨Same.refl _, _, x.2.1, rfl, Int.le_refl _, x, .one, rfl⟩ ?_ (fun σ H Q Q' h ⟨b, e, z⟩ => ⟨b, e, h _ _ z⟩)
    rintro σ H3 ⟨s3, x10, b, rfl, hbx, u, hu, eb⟩
    refine ⟨true, rfl, iteT' ?_⟩
    have ha3 := s3 _ _ ha
    refine ⟨.int b, rfl, (by show 1 ≤ sizeLine; decide), fun L1 hL1 => ?_⟩
    have s4 : Same H2 (upd H3 L1 (.lst [.int b])) := s3.trans (same_new hL1)
    have hL : upd H3 L1 (.lst [.int b]) L1 = some (.lst [.int b]) := upd_same
    generalize upd H3 L1 (.lst [.int b]) = H4 at s4 hL ⊢
    refine ⟨.ref a, rfl, a, _, rfl, .inr (SqT.of (s4 _ _ ha)), fun J G wk hG D3 hD3 => ?_⟩
    refine lc_it wk (fun k H' => H' = upd H4 D3 (.lst (((zs.take k).filter fun u => decide (b < u.2.2)).map fun u => V.int u.2.1))) rfl (fun i H' _ e => hG _ (by rw [e]; exact same_new hD3)) ?_ ?_
    · rintro k x1 H5 H6 hk rfl ⟨rfl, hx⟩
      have hkq : k < qs.length := by rw [List.length_map] at hk; exact hk
      have hkz : k < zs.length := by omega
      have ex : x1 = .ref qs[k] := by
        rw [List.getElem?_map, List.getElem?_eq_getElem hkq] at hx
        exact (Option.some.inj hx).symm
      subst ex
      have zk := (s4.trans (same_new (o := .lst (((zs.take k).filter fun u => decide (b < u.2.2)).map fun u => V.int u.2.1)) hD3)) _ _ (hq k qs[k] zs[k] (List.getElem?_eq_getElem hkq) (List.getElem?_eq_getElem hkz))
      have tk : (zs.take (k + 1)).filter (fun u => decide (b < u.2.2)) = (zs.take k).filter (fun u => decide (b < u.2.2)) ++ if decide (b < zs[k].2.2) = true then [zs[k]] else [] := by
        rw [List.take_add_one, List.getElem?_eq_getElem hkz, List.filter_append]
        congr 1
        show List.filter _ [zs[k]] = _
        rw [List.filter_cons]
        rfl
      rw [tk]
      have ln : (((zs.take k).filter fun u => decide (b < u.2.2)).map fun u => V.int u.2.1).length < sizeLine := by
        rw [List.length_map]
        refine Nat.lt_of_le_of_lt (Nat.le_trans (List.length_filter_le _ _) (show _ ≤ 1002 from ?_)) (by decide)
        rw [List.length_take]
        omega
      generalize zs[k] = v at zk ⊢
      generalize (zs.take k).filter (fun u => decide (b < u.2.2)) = us at zk ln ⊢
      refine ⟨_, _, rfl, SqT.of zk, rfl, _, _, rfl, _, _, rfl, _, _, rfl, rfl, rfl, ?_⟩
      refine ⟨.int v.2.2, rfl, .int b, rfl, _, _, rfl, rfl, decide (b < v.2.2), rfl, ?_⟩
      cases c : decide (b < v.2.2) with
      | false =>
        refine iteF' ?_
        show _ = _
        rw [if_neg (by decide), List.append_nil]
      | true =>
        refine iteT' ⟨_, rfl, _, upd_same, ln, ?_⟩
        rw [upd_upd, if_pos rfl, List.map_append]
        rfl
    rintro H5 rfl
    rw [List.length_map, lq, List.take_of_length_le (Nat.le_refl _)]
    have s5 : Same H2 (upd H4 D3 (.lst ((zs.filter fun u => decide (b < u.2.2)).map fun u => V.int u.2.1))) := s4.trans (same_new hD3)
    have hD5 : upd H4 D3 (.lst ((zs.filter fun u => decide (b < u.2.2)).map fun u => V.int u.2.1)) D3 = some (.lst ((zs.filter fun u => decide (b < u.2.2)).map fun u => V.int u.2.1)) := upd_same
    have hL5 := same_new (o := .lst ((zs.filter fun u => decide (b < u.2.2)).map fun u => V.int u.2.1)) hD3 _ _ hL
    generalize upd H4 D3 (.lst ((zs.filter fun u => decide (b < u.2.2)).map fun u => V.int u.2.1)) = H5 at s5 hD5 hL5 ⊢
    refine ⟨L1, D3, _, _, rfl, rfl, hL5, hD5, ?_, fun L3 hL3 => ?_⟩
    · rw [List.length_map]
      exact Nat.le_trans (Nat.add_le_add_left (Nat.le_trans (List.length_filter_le _ _) hl) 1) (by decide)
    have e6 : [V.int b] ++ (zs.filter fun u => decide (b < u.2.2)).map (fun u => V.int u.2.1) = (b :: (zs.filter fun u => decide (b < u.2.2)).map fun u => u.2.1).map V.int := by
      rw [List.map_cons, List.map_map]
      rfl
    rw [e6]
    have s6 : Same H2 (upd H5 L3 (.lst ((b :: (zs.filter fun u => decide (b < u.2.2)).map fun u => u.2.1).map V.int))) := s5.trans (same_new hL3)
    have hL6 : upd H5 L3 (.lst ((b :: (zs.filter fun u => decide (b < u.2.2)).map fun u => u.2.1).map V.int)) L3 = some (.lst ((b :: (zs.filter fun u => decide (b < u.2.2)).map fun u => u.2.1).map V.int)) := upd_same
    generalize upd H5 L3 (.lst ((b :: (zs.filter fun u => decide (b < u.2.2)).map fun u => u.2.1).map V.int)) = H6 at s6 hL6 ⊢
    refine ⟨L3, _, rfl, SqL.of hL6, Nat.succ_pos _, fun m hm hu2 => ?_⟩
    have mb : m ≤ b := hu2 b List.mem_cons_self
    refine ⟨.int m, rfl, .int b, rfl, rfl, decide (V.int m = V.int b), rfl, ?_⟩
    by_cases e : m = b
    · rw [decide_eq_true (by rw [e])]
      refine iteT' ⟨.ref D, rfl, oV y.1, rfl, D, _, nk y.1, .int y.2.2, rfl, .inl (s6 _ _ h12), (nk_v y.1).symm, gy, .int b, rfl, _, _, rfl, rfl, ?_⟩
      refine q _ _ (leads_iff hu eb (fun v mv lt => ?_) hbx) (s2.trans s6)
      have := hu2 v.2.1 (List.mem_cons_of_mem _ (List.mem_map.mpr ⟨v, List.mem_filter.mpr ⟨mv, decide_eq_true lt⟩, rfl⟩))
      omega
    · rw [decide_eq_false (fun z => e (V.int.inj z))]
      rcases List.mem_cons.mp hm with z | hm
      · exact absurd z e
      obtain ⟨v, mv, rfl⟩ := List.mem_map.mp hm
      obtain ⟨mv, lt⟩ := List.mem_filter.mp mv
      refine iteF' ⟨.int v.2.1, rfl, ⟨s6, _, _, rfl, by omega, v, .more hu mv (by rw [eb]; exact of_decide_eq_true lt), rfl⟩, ?_⟩
      refine fl_lt (fun w h => ?_) mv ?_ ?_
      · exact decide_eq_true (Int.lt_of_lt_of_le (of_decide_eq_true h) mb)
      · exact decide_eq_true (by omega)
      · exact decide_eq_false (by omega)
end
end K36
end

section
set_option Elab.async false
set_option linter.all false
set_option maxRecDepth 100000
set_option maxHeartbeats 4000000
/-! whether there is an order -/
namespace K36
open PySem L2 KZ
abbrev sNeedO : Stmt := top 26
def Orderly (rs : List Row) : Prop := earlyOf rs = [] ∧ ∀ i, oddAt (zonesOf rs) i = []
structure Cal (P : Program) (w : World) (K : PySem.W.Frag) (mg : Str → Option Value) (base : Heap) (x : Str) (n : Nat) (ps : List Str) (sp : Sp) : Prop where
  ex : ∃ f fd, mg x = some (.ref f) ∧ FnOk P w K mg base CX0 n f fd ps sp ∧ PySem.W.keepIn K (.ref f) = true ∧ Binds K fd ps []
def spZonesX (K : PySem.W.Frag) (C : Addr) : Sp := fun vs H Q _ => ∃ a rs, vs = [.ref a] ∧ Hist K C H a rs ∧ rs.length ≤ 1000 ∧ (∀ r ∈ rs, r.Ok) ∧ firstBad rs = none ∧ ∀ p H', Same H H' → ZonesAt H' p (zonesOf rs) → Q (.ref p) H'
/-- what the orders' functions call -/
structure OF (P : Program) (w : World) (K : PySem.W.Frag) (mg : Str → Option Value) (base : Heap) (C : Addr) : Prop where
  early : Cal P w K mg base "gets_ahead_of_puts" 8 ["asks"] (spEarly K C)
  odds : Cal P w K mg base "lots_at_odds" 1 ["told"] spOdds
  zones : Cal P w K mg base "zones" 8 ["asks"] (spZonesX K C)
  lot : Cal P w K mg base "lot_of" 1 ["asks", "at"] (spLotOf K C)
  last : Cal P w K mg base "can_be_last" 1 ["told", "row"] spCanLast
  ahead : Cal P w K mg base "is_lot_ahead" 1 ["told", "one", "other"] spLotAhead
def spNeedO (K : PySem.W.Frag) (C cC : Addr) : Sp := fun vs H Q E => ∃ a rs, vs = [.ref a] ∧ Hist K C H a rs ∧ rs.length ≤ 1000 ∧ (∀ r ∈ rs, r.Ok) ∧ firstBad rs = none ∧ (Orderly rs → ∀ H', Same H H' → Q .non H') ∧ (¬Orderly rs → OutF cC [("part", .str "order")] H E)
theorem zones_le (rs : List Row) : (zonesOf rs).length ≤ rs.length + 2 := by
  unfold zonesOf
  rw [List.length_map]
  have h1 := lotsZ_len (foldZ rs (partsOf rs)).2
  have h2 := (foldZ_len1 rs (partsOf rs)).2
  have h3 : (partsOf rs).length ≤ rs.length := by
    unfold partsOf
    exact Nat.le_trans (List.length_filter_le _ _) (by simp)
  omega
section
variable {P : Program} {w : World} {K : PySem.W.Frag} {mg : Str → Option Value} {base : Heap} {C cC : Addr}
theorem raise_strC {σ : L2.St} {H : Hp} {E : XK} {p : Str} (q : OutF cC [("part", .str p)] H E) : tMkO cC (spE1 K cC "part") [] (tCons (tC (.str p)) tNil) σ H fun cls d H' => E cls d H' := raise_str q
theorem scNeedO : FnScope ["asks"] ["asks"] (defScope sNeedO) := ⟨rfl, rfl, rfl, by decide +kernel, rfl, by decide +kernel, by decide +kernel⟩
theorem ok_needo {f : Addr} {fd : FuncData} (F : Fun K "need_order" "need_order" sNeedO f fd) (T : B1 mg) (O : OF P w K mg base C) (M : Mk1 P w K mg base "Clashing" cC "part" "part") : FnOk P w K mg base (L2.CX P w) 9 f fd ["asks"] (spNeedO K C cC) := by
  obtain ⟨fR3, dR3, ER3, FR3, bR3, _⟩ := M.has
  obtain ⟨fE, dE, gE, GE, kE, bE⟩ := O.early.ex
  obtain ⟨fO, dO, gO, GO, kO, bO⟩ := O.odds.ex
  obtain ⟨fZ, dZ, gZ, GZ, kZ, bZ⟩ := O.zones.ex
  refine F.okX scNeedO (fun vs H Q E h => ?_) (fun cdv A' outer s H vs Q E hr h => ?_)
  · obtain ⟨a, rs, rfl, _⟩ := h
    rfl
  · obtain ⟨a, rs, rfl, hh, hl, ok, nb, q0, q1⟩ := h
    have hr8 : Room 8 _ := hr
    have hr6 : Room 6 _ := hr.mono (by decide)
    have hr1 : Room 1 _ := hr.mono (by decide)
    refine ⟨_, (pss_one (ps_if (PW.pt (pw_or (pt_cmpR op_gt (pe_callB call_len (by rfl) T.len PySem.boot_len (pa_cons (pe_call GE hr8 (by rfl) gE kE bE .nil pass0 (pa_cons (pv 0) pa_nil)) pa_nil)) pe_int (nomark _)) (pw_or1 (pt_cmpR op_notN (pe_call GO hr1 (by rfl) gO kO bO .nil pass0 (pa_cons (pe_call GZ hr8 (by rfl) gZ kZ bZ .nil pass0 (pa_cons (pv 0) pa_nil)) pa_nil)) pe_non (nomark _)))))
(pss_one (ps_raise rfl (takes_of rfl rfl rfl rfl) (pmk_oex ER3.ox ER3.ini ER3.ti FR3 hr6 bR3 .nil pass0 (by rfl) ER3.gl (pa_cons pe_str pa_nil))))
pss_nil)), ?_⟩
    refine ⟨.ref a, rfl, a, rs, rfl, hh, hl, ok, nb, fun p H1 s1 hp1 => ?_⟩
    refine ⟨.ref p, (nats (earlyOf rs)).length, rfl, .inl ⟨_, SqL.of hp1, rfl⟩, _, _, rfl, rfl, _, rfl, ?_⟩
    rw [show decide ((0 : Int) < ((nats (earlyOf rs)).length : Nat)) = !(earlyOf rs).isEmpty from by cases earlyOf rs <;> simp [nats]]
    cases he : earlyOf rs with
    | cons x l => exact iteT' (iteT' (raise_strC ((q1 fun z => by rw [z.1] at he; cases he).at s1)))
    | nil =>
      refine iteF' ⟨.ref a, rfl, a, rs, rfl, hh.mono s1, hl, ok, nb, fun z H2 s2 hz => ⟨z, _, rfl, hz, Nat.le_trans (zones_le rs) (by omega), fun no H3 s3 => ?_, fun i zi x l ei ea _ p2 H3 s3 _ => ?_⟩⟩
      · exact ⟨rfl, false, rfl, iteF' (q0 ⟨he, no⟩ H3 (s1.trans (s2.trans s3)))⟩
      · exact ⟨rfl, true, rfl, iteT' (raise_strC ((q1 fun z => by rw [z.2 i] at ea; cases ea).at (s1.trans (s2.trans s3))))⟩
end
end K36
end

section
set_option Elab.async false
set_option linter.all false
set_option maxRecDepth 100000
set_option maxHeartbeats 4000000
/-! what stands surely ahead -/
namespace K36
open PySem L2 KZ
abbrev sSurely : Stmt := top 21
/-- the zone of a lot -/
def zoneOf (rs : List Row) (k : Option Int) : Zn := zoneZ (foldZ rs (partsOf rs)) k
def isPartD (rs : List Row) (d : PyData) : Bool := match d with
  | .int i => (partsOf rs).any fun (n : Nat) => decide ((n : Int) = i)
  | _ => false
def Sure (rs : List Row) (i j : Nat) : Prop := ∃ r s, rs[i]? = some r ∧ rs[j]? = some s ∧
  if lotOf r i ≠ lotOf s j then Leads (zonesOf rs) (zoneOf rs (lotOf r i)) (zoneOf rs (lotOf s j)) else if r.g = false then i ≠ j else ahead r s = true
theorem sure_iff {rs : List Row} {i j : Nat} {r s : Row} (er : rs[i]? = some r) (es : rs[j]? = some s) : Sure rs i j ↔
    if lotOf r i ≠ lotOf s j then Leads (zonesOf rs) (zoneOf rs (lotOf r i)) (zoneOf rs (lotOf s j)) else if r.g = false then i ≠ j else ahead r s = true := by
  refine ⟨fun ⟨r', s', e1, e2, h⟩ => ?_, fun h => ⟨r, s, er, es, h⟩⟩
  rw [er] at e1
  rw [es] at e2
  cases e1
  cases e2
  exact h
def spSurely (K : PySem.W.Frag) (C cB cT cC : Addr) : Sp := fun vs H Q E => ∃ v v1 v2 d1 d2, vs = [v, v1, v2] ∧ Dv K H v1 d1 ∧ Dv K H v2 d2 ∧ Looked K C cB cT v H E fun _ rs =>
  (isPartD rs d1 = false → OutF cB [("part", .str "one")] H E) ∧ (isPartD rs d1 = true → isPartD rs d2 = false → OutF cB [("part", .str "other")] H E) ∧
  ∀ i j : Nat, d1 = .int i → d2 = .int j → i ∈ partsOf rs → j ∈ partsOf rs → (¬Orderly rs → OutF cC [("part", .str "order")] H E) ∧ (Orderly rs → ∀ b H', Same H H' → (b = true ↔ Sure rs i j) → Q (.bl b) H')
theorem zones_mem {rs : List Row} {i : Nat} {r : Row} (h : i ∈ partsOf rs) (er : rs[i]? = some r) : zoneOf rs (lotOf r i) ∈ zonesOf rs := by
  have hm : (getO (foldZ rs (partsOf rs)).2 (lotOf r i)).isSome = true := (has_mine rs _).mpr ⟨r, mem_mine.mpr ⟨i, h, er, rfl⟩⟩
  unfold zonesOf
  refine List.mem_map.mpr ⟨lotOf r i, ?_, rfl⟩
  unfold lotsZ
  cases e : lotOf r i with
  | none =>
    rw [e] at hm
    rw [if_pos hm]
    exact List.mem_cons_self
  | some x =>
    rw [e] at hm
    have : some x ∈ (putsZ (foldZ rs (partsOf rs)).2).map some := List.mem_map.mpr ⟨x, by
      unfold putsZ
      exact (PySem.W.sortI_perm _).mem_iff.mpr (mem_soms.mpr hm), rfl⟩
    split
    · exact List.mem_cons_of_mem _ this
    · exact this
theorem zones_inj {rs : List Row} : ∀ u v, u ∈ zonesOf rs → v ∈ zonesOf rs → u.1 = v.1 → u = v := fun u v mu mv e => by
  unfold zonesOf at mu mv
  obtain ⟨k, _, rfl⟩ := List.mem_map.mp mu
  obtain ⟨l, _, rfl⟩ := List.mem_map.mp mv
  have : k = l := e
  rw [this]
theorem in_parts {ps : List Nat} {i : Int} : inV (V.int i) (nats ps) = ps.any fun (n : Nat) => decide ((n : Int) = i) := by
  unfold inV nats
  rw [List.any_map]
  rfl
theorem nats_flat (ps : List Nat) : (nats ps).all flatV = true := by
  unfold nats
  rw [List.all_map]
  exact List.all_eq_true.mpr fun _ _ => rfl
section
variable {P : Program} {w : World} {K : PySem.W.Frag} {mg : Str → Option Value} {base : Heap} {C cB cT cC fA : Addr} {dA : FuncData}
theorem part_test {σ : L2.St} {H : Hp} {k : Nat} {v : V} {d : PyData} {D : Addr} {rs : List Row} {Q : Bool → Hp → Prop} (hv : σ[k]? = some (some v)) (hD : σ[3]? = some (some (.ref D))) (g : Dv K H v d) (hl : H D = some (.lst (nats (partsOf rs)))) (q : Q (!isPartD rs d) H) :
    tOr (tNot (tB (tCall (spIsInt K) [] E0 (tCons (tVar k) tNil)))) (tTest (tOp (rIn K true) (tVar k) (tVar 3))) σ H Q := by
  refine ⟨v, hv, v, d, rfl, g, isInt d, rfl, ?_⟩
  cases d with
  | int i =>
    cases g
    refine ⟨.int i, hv, .ref D, hD, D, _, rfl, .inl (SqL.of hl), rfl, nats_flat _, _, rfl, ?_⟩
    show Q (!inV (V.int i) (nats (partsOf rs))) H
    rw [in_parts]
    exact q
  | _ => exact q
theorem scSurely : FnScope ["asks", "one", "other", "told"] ["asks", "one", "other"] (defScope sSurely) := ⟨rfl, rfl, rfl, by decide +kernel, rfl, by decide +kernel, by decide +kernel⟩
theorem ok_surely {f fN1 fN2 : Addr} {fd dN1 dN2 : FuncData} (F : Fun K "surely" "surely" sSurely f fd) (A : AskC K mg C) (T : B1 mg) (O : OF P w K mg base C) (M : Mk1 P w K mg base "BadAsk" cB "part" "part")
    (parts : Cal P w K mg base "parts_of" 2 ["asks"] (spParts K C)) (isI : Cal P w K mg base "is_integer" 1 ["value"] (spIsInt K))
    (gN1 : mg "need_asks" = some (.ref fN1)) (GN1 : FnOk P w K mg base (L2.CX P w) 7 fN1 dN1 ["asks"] (spNeed K C cB cT)) (kN1 : PySem.W.keepIn K (.ref fN1) = true) (bN1 : Binds K dN1 ["asks"] [])
    (gN2 : mg "need_order" = some (.ref fN2)) (GN2 : FnOk P w K mg base (L2.CX P w) 9 fN2 dN2 ["asks"] (spNeedO K C cC)) (kN2 : PySem.W.keepIn K (.ref fN2) = true) (bN2 : Binds K dN2 ["asks"] [])
    (MA : Meth K C "is_ahead" fA) (GAh : FnOk P w K mg base CX0 7 fA dA ["self", "other"] (spAheadX C)) (bAh : Binds K dA ["self", "other"] []) : FnOk P w K mg base (L2.CX P w) 10 f fd ["asks", "one", "other"] (spSurely K C cB cT cC) := by
  obtain ⟨fR, dR, ER, FR, bR, _⟩ := M.has
  obtain ⟨fZ, dZ, gZ, GZ, kZ, bZ⟩ := O.zones.ex
  obtain ⟨fL, dL, gL, GL, kL, bL⟩ := O.lot.ex
  obtain ⟨fAl, dAl, gA, GA, kA, bA⟩ := O.ahead.ex
  obtain ⟨fP, dP, gP, GP, kP, bP⟩ := parts.ex
  obtain ⟨fI, dI, gI, GI, kI, bI⟩ := isI.ex
  refine F.okX scSurely (fun vs H Q E h => ?_) (fun cdv A' outer s H vs Q E hr h => ?_)
  · obtain ⟨v, v1, v2, d1, d2, rfl, _⟩ := h
    rfl
  · obtain ⟨v, v1, v2, d1, d2, rfl, g1, g2, h⟩ := h
    have hrN2 : Room 9 _ := hr
    have hrN1 : Room 7 _ := hr.mono (by decide)
    have hr8 : Room 8 _ := hr.mono (by decide)
    have hr7 : Room 7 _ := hr.mono (by decide)
    have hr6 : Room 6 _ := hr.mono (by decide)
    have hr2 : Room 2 _ := hr.mono (by decide)
    have hr1 : Room 1 _ := hr.mono (by decide)
    refine ⟨_, (pss_cons (ps_expr (pe_call GN1 hrN1 (by rfl) gN1 kN1 bN1 .nil (passes_call (takes_of rfl rfl rfl rfl) fun _ _ _ _ z => z) (pa_cons (pv 0) pa_nil)))
(pss_cons (ps_set (i := 3) scSurely.nd rfl (Or.inl rfl) (pe_call GP hr2 (by rfl) gP kP bP .nil pass0 (pa_cons (pv 0) pa_nil)))
(pss_cons (ps_if (PW.pt (pw_or (pt_not (pt_val (pe_call GI hr1 (by rfl) gI kI bI .nil pass0 (pa_cons (pv 1) pa_nil)))) (pw_or1 (pt_cmpR op_notIn_seq (pv 1) (pv 3) (by rfl)))))
(pss_one (ps_raise rfl (takes_of rfl rfl rfl rfl) (pmk_oex ER.ox ER.ini ER.ti FR hr6 bR .nil pass0 (by rfl) ER.gl (pa_cons pe_str pa_nil))))
pss_nil)
(pss_cons (ps_if (PW.pt (pw_or (pt_not (pt_val (pe_call GI hr1 (by rfl) gI kI bI .nil pass0 (pa_cons (pv 2) pa_nil)))) (pw_or1 (pt_cmpR op_notIn_seq (pv 2) (pv 3) (by rfl)))))
(pss_one (ps_raise rfl (takes_of rfl rfl rfl rfl) (pmk_oex ER.ox ER.ini ER.ti FR hr6 bR .nil pass0 (by rfl) ER.gl (pa_cons pe_str pa_nil))))
pss_nil)
(pss_cons (ps_expr (pe_call GN2 hrN2 (by rfl) gN2 kN2 bN2 .nil (passes_call (takes_of rfl rfl rfl rfl) fun _ _ _ _ z => z) (pa_cons (pv 0) pa_nil)))
(pss_cons (ps_if (pt_cmpR op_ne (pe_call GL hr1 (by rfl) gL kL bL .nil pass0 (pa_cons (pv 0) (pa_cons (pv 1) pa_nil))) (pe_call GL hr1 (by rfl) gL kL bL .nil pass0 (pa_cons (pv 0) (pa_cons (pv 2) pa_nil))) (nomark _))
(pss_one (ps_ret (pe_call GA hr1 (by rfl) gA kA bA .nil pass0 (pa_cons (pe_call GZ hr8 (by rfl) gZ kZ bZ .nil pass0 (pa_cons (pv 0) pa_nil)) (pa_cons (pe_call GL hr1 (by rfl) gL kL bL .nil pass0 (pa_cons (pv 0) (pa_cons (pv 1) pa_nil))) (pa_cons (pe_call GL hr1 (by rfl) gL kL bL .nil pass0 (pa_cons (pv 0) (pa_cons (pv 2) pa_nil))) pa_nil))))))
pss_nil)
(pss_cons (ps_if (pt_cmpR op_eq (pe_fld (pe_ix (ix_seqK K) (pv 0) (pv 1) (fun _ _ => rfl)) rfl) pe_str (nomark _))
(pss_one (ps_ret (pe_cmpR op_ne (pv 1) (pv 2) (nomark _))))
pss_nil)
(pss_one (ps_ret (pe_meth (pe_ix (ix_seqK K) (pv 0) (pv 1) (fun _ _ => rfl)) A.cl MA GAh hr7 bAh .nil pass0 (pa_cons (pe_ix (ix_seqK K) (pv 0) (pv 2) (fun _ _ => rfl)) pa_nil))))))))))), ?_⟩
    refine ⟨v, rfl, v, rfl, h.dis fun a rs e hh hl ok nb ⟨q1, q2, q3⟩ H1 s1 => ?_⟩
    subst e
    refine ⟨.ref a, rfl, a, rs, rfl, hh.mono s1, by omega, fun D H2 s2 _ hD => ?_⟩
    have s12 := s1.trans s2
    refine part_test rfl rfl (Dv.mono s12 g1) hD ?_
    cases c1 : isPartD rs d1 with
    | false => exact iteT' (raise_str ((q1 c1).at s12))
    | true =>
    refine iteF' (part_test rfl rfl (Dv.mono s12 g2) hD ?_)
    cases c2 : isPartD rs d2 with
    | false => exact iteT' (raise_str ((q2 c1 c2).at s12))
    | true =>
    have int_of : ∀ d, isPartD rs d = true → ∃ n : Nat, d = .int n ∧ n ∈ partsOf rs := fun d h => by
      cases d with
      | int i =>
        obtain ⟨n, mn, e⟩ := List.any_eq_true.mp h
        exact ⟨n, by rw [of_decide_eq_true e], mn⟩
      | _ => cases h
    obtain ⟨i, rfl, mi⟩ := int_of d1 c1
    obtain ⟨j, rfl, mj⟩ := int_of d2 c2
    obtain ⟨q4, q5⟩ := q3 i j rfl rfl mi mj
    cases g1
    cases g2
    refine iteF' ⟨.ref a, rfl, a, rs, rfl, hh.mono s12, hl, ok, nb, fun od H3 s3 => ?_, fun no => (q4 no).at s12⟩
    have s13 := s12.trans s3
    obtain ⟨r, er, _⟩ := mem_parts.mp mi
    obtain ⟨s, es, _⟩ := mem_parts.mp mj
    have h3 := hh.mono s13
    refine ⟨.ref a, rfl, .int i, rfl, a, rs, i, r, rfl, h3, er, .ref a, rfl, .int j, rfl, a, rs, j, s, rfl, h3, es, (by cases lotOf r i <;> cases lotOf s j <;> rfl), _, rfl, ?_⟩
    rw [eq_oV]
    by_cases ne : lotOf r i = lotOf s j
    · rw [decide_eq_true ne]
      obtain ⟨p, dx, xs, sq, at1, hp⟩ := h3.at er
      obtain ⟨p2, dx2, xs2, sq2, at2, hp2⟩ := h3.at es
      refine iteF' ⟨.ref a, rfl, .int i, rfl, Sq.ix sq at1 ⟨p, C, dx, flds r, .str (wd r.g), rfl, hp, A.cl, A.nw, rfl, rfl, !r.g, (by cases r.g <;> decide +kernel), ?_⟩⟩
      cases hg : r.g with
      | false =>
        refine iteT' ⟨.int i, rfl, .int j, rfl, rfl, q5 od _ H3 s13 ?_⟩
        rw [sure_iff er es, if_neg (fun z => z ne), if_pos hg]
        refine ⟨fun z e => ?_, fun z => ?_⟩
        · rw [e, decide_eq_true rfl] at z
          cases z
        · rw [decide_eq_false (show ¬ V.int (i : Int) = V.int (j : Int) from fun e => z (Int.ofNat.inj (V.int.inj e)))]
          rfl
      | true =>
        refine iteF' ⟨.ref a, rfl, .int i, rfl, Sq.ix sq at1 ⟨p, dx, flds r, rfl, hp, rfl, .ref a, rfl, .int j, rfl, Sq.ix sq2 at2 ⟨p, r, p2, s, rfl, ⟨dx, hp⟩, ⟨dx2, hp2⟩, q5 od _ H3 s13 ?_⟩⟩⟩
        rw [sure_iff er es, if_neg (fun z => z ne), if_neg (by rw [hg]; exact fun z => nomatch z)]
    · rw [decide_eq_false ne]
      refine iteT' ⟨.ref a, rfl, a, rs, rfl, h3, hl, ok, nb, fun z H4 s4 hz => ?_⟩
      refine ⟨.ref a, rfl, .int i, rfl, a, rs, i, r, rfl, h3.mono s4, er, .ref a, rfl, .int j, rfl, a, rs, j, s, rfl, h3.mono s4, es, z, zonesOf rs, zoneOf rs (lotOf r i), zoneOf rs (lotOf s j), rfl, hz, Nat.le_trans (zones_le rs) (by omega), zones_inj, zones_mem mi er, zones_mem mj es, fun b H5 hb s5 => q5 od b H5 (s13.trans (s4.trans s5)) ?_⟩
      rw [hb, sure_iff er es, if_pos ne]
end
end K36
end

section
set_option Elab.async false
set_option linter.all false
set_option maxRecDepth 100000
set_option maxHeartbeats 4000000
/-! what a further get can tell -/
namespace K36
open PySem L2 KZ
abbrev sTellable : Stmt := top 22
def thereB (zs : List Zn) (i : Nat) : Bool := zs.any fun z => decide (z.1 = some (i : Int))
def isPutAt (rs : List Row) (i : Nat) : Bool := match rs[i]? with
  | some r => !r.g
  | none => false
def freeOf (rs : List Row) (zs : List Zn) : List Nat := (List.range rs.length).filter fun i => isPutAt rs i && !thereB zs i
def lastIn (zs us : List Zn) : List Int := (us.filter fun z => z.1.isSome && canLast zs z).filterMap (·.1)
def lastOf (zs : List Zn) : List Int := lastIn zs zs
def someB (zs : List Zn) : Bool := zs.any fun z => z.1.isSome
def bv (l : List (Option Int)) : List (NK × V) := l.map fun k => (nk k, V.bl true)
def addO (l : List (Option Int)) (k : Option Int) : List (Option Int) := if k ∈ l then l else l ++ [k]
def thL (zs : List Zn) : List (Option Int) := zs.foldl (fun l u => addO l u.1) []
theorem bv_any (l : List (Option Int)) (k : Option Int) : ((bv l).any fun kv => decide (kv.1 = nk k)) = decide (k ∈ l) := by
  unfold bv
  rw [List.any_map]
  by_cases h : k ∈ l
  · rw [decide_eq_true h]
    exact List.any_eq_true.mpr ⟨k, h, decide_eq_true rfl⟩
  · rw [decide_eq_false h]
    exact List.any_eq_false.mpr fun x mx z => h (nk_inj (of_decide_eq_true z) ▸ mx)
theorem bv_put (l : List (Option Int)) (k : Option Int) : putK (bv l) (nk k) (.bl true) = bv (addO l k) := by
  unfold putK addO
  rw [bv_any]
  by_cases h : k ∈ l
  · rw [if_pos (decide_eq_true h), if_pos h]
    unfold bv
    rw [List.map_map]
    refine List.map_congr_left fun x _ => ?_
    show (if nk x = nk k then (nk x, V.bl true) else (nk x, V.bl true)) = _
    split <;> rfl
  · rw [if_neg (by rw [decide_eq_false h]; decide), if_neg h]
    unfold bv
    rw [List.map_append]
    rfl
theorem bv_in (l : List (Option Int)) (k : Option Int) : (valV (bv l) (nk k)).isSome = decide (k ∈ l) := by rw [← valV_any, bv_any]
theorem bv_len (l : List (Option Int)) : (bv l).length = l.length := by unfold bv; rw [List.length_map]
theorem mem_addO {l : List (Option Int)} {k j : Option Int} : j ∈ addO l k ↔ j ∈ l ∨ j = k := by
  unfold addO
  split
  · exact ⟨.inl, fun h => h.elim id fun e => by rw [e]; assumption⟩
  · rw [List.mem_append, List.mem_singleton]
theorem mem_thF : ∀ {zs : List Zn} {l : List (Option Int)} {k : Option Int}, k ∈ zs.foldl (fun l u => addO l u.1) l ↔ k ∈ l ∨ ∃ u ∈ zs, u.1 = k
  | [], l, k => by simp
  | z :: zs, l, k => by
    rw [List.foldl_cons, mem_thF, mem_addO]
    constructor
    · rintro ((h | h) | ⟨u, mu, e⟩)
      · exact .inl h
      · exact .inr ⟨z, List.mem_cons_self, h.symm⟩
      · exact .inr ⟨u, List.mem_cons_of_mem _ mu, e⟩
    · rintro (h | ⟨u, mu, e⟩)
      · exact .inl (.inl h)
      · rcases List.mem_cons.mp mu with rfl | m
        · exact .inl (.inr e.symm)
        · exact .inr ⟨u, m, e⟩
theorem mem_thL {zs : List Zn} {k : Option Int} : k ∈ thL zs ↔ ∃ u ∈ zs, u.1 = k := by
  unfold thL
  rw [mem_thF]
  exact ⟨fun h => h.resolve_left (by simp), .inr⟩
theorem thF_len : ∀ (zs : List Zn) (l : List (Option Int)), (zs.foldl (fun l u => addO l u.1) l).length ≤ l.length + zs.length
  | [], l => by simp
  | z :: zs, l => by
    rw [List.foldl_cons]
    have h1 := thF_len zs (addO l z.1)
    have h2 : (addO l z.1).length ≤ l.length + 1 := by
      unfold addO
      split
      · omega
      · rw [List.length_append]; exact Nat.le_refl _
    rw [List.length_cons]
    omega
theorem th_len (zs : List Zn) : (thL zs).length ≤ zs.length := by
  have := thF_len zs []
  unfold thL
  simpa using this
theorem th_take {zs : List Zn} {k : Nat} (h : k < zs.length) : thL (zs.take (k + 1)) = addO (thL (zs.take k)) zs[k].1 := by
  unfold thL
  rw [List.take_add_one, List.getElem?_eq_getElem h, List.foldl_append]
  rfl
theorem th_in (zs : List Zn) (i : Nat) : decide (some (i : Int) ∈ thL zs) = thereB zs i := by
  by_cases h : some (i : Int) ∈ thL zs
  · rw [decide_eq_true h]
    obtain ⟨u, mu, e⟩ := mem_thL.mp h
    exact (List.any_eq_true.mpr ⟨u, mu, decide_eq_true e⟩).symm
  · rw [decide_eq_false h]
    exact (List.any_eq_false.mpr fun u mu z => h (mem_thL.mpr ⟨u, mu, of_decide_eq_true z⟩)).symm
theorem th_some (zs : List Zn) : (!((thL zs).filter (·.isSome)).isEmpty) = someB zs := by
  cases h : someB zs with
  | true =>
    obtain ⟨u, mu, e⟩ := List.any_eq_true.mp h
    have m : u.1 ∈ (thL zs).filter (·.isSome) := List.mem_filter.mpr ⟨mem_thL.mpr ⟨u, mu, rfl⟩, e⟩
    cases c : (thL zs).filter (·.isSome) with
    | nil => rw [c] at m; cases m
    | cons _ _ => rfl
  | false =>
    cases c : (thL zs).filter (·.isSome) with
    | nil => rfl
    | cons x l =>
      have m : x ∈ (thL zs).filter (·.isSome) := by rw [c]; exact List.mem_cons_self
      obtain ⟨m1, m2⟩ := List.mem_filter.mp m
      obtain ⟨u, mu, e⟩ := mem_thL.mp m1
      exact absurd (e ▸ m2) (List.any_eq_false.mp h u mu)
def spTellable (K : PySem.W.Frag) (C cB cT : Addr) : Sp := fun vs H Q E => ∃ v, vs = [v] ∧ Looked K C cB cT v H E fun _ rs =>
  (¬Orderly rs → ∀ p H', Same H H' → H' p = some (.tup []) → Q (.ref p) H') ∧
  (Orderly rs → ∀ (ns : List Int) p H', ns.Perm ((freeOf rs (zonesOf rs)).map (fun (n : Nat) => (n : Int)) ++ lastOf (zonesOf rs)) → ns.Pairwise (· ≤ ·) → Same H H' →
    H' p = some (.tup (if someB (zonesOf rs) = true then ns.map V.int else V.non :: ns.map V.int)) → Q (.ref p) H')
section
variable {P : Program} {w : World} {K : PySem.W.Frag} {mg : Str → Option Value} {base : Heap} {C cB cT cC fA : Addr} {dA : FuncData}
theorem Looked.imp {v : V} {H : Hp} {E : XK} {go go' : Addr → List Row → Prop} (h : Looked K C cB cT v H E go) (k : ∀ a rs, v = .ref a → Hist K C H a rs → rs.length ≤ 1000 → (∀ r ∈ rs, r.Ok) → firstBad rs = none → go a rs → go' a rs) : Looked K C cB cT v H E go' := by
  rcases h with h | h | ⟨a, rs, e, hh, hl, ok, q1, q2, q3⟩
  · exact .inl h
  · exact .inr (.inl h)
  · exact .inr (.inr ⟨a, rs, e, hh, hl, ok, q1, q2, fun l z => k a rs e hh l ok z (q3 l z)⟩)
theorem scTell : FnScope ["asks", "told", "there", "lot", "_", "free", "at", "last", "row", "puts"] ["asks"] (defScope sTellable) := ⟨rfl, rfl, rfl, by decide +kernel, rfl, by decide +kernel, by decide +kernel⟩
theorem ok_tellable {f fZ : Addr} {fd dZ : FuncData} (F : Fun K "tellable" "tellable" sTellable f fd) (A : AskC K mg C) (T : B1 mg) (O : OF P w K mg base C)
    (gZ : mg "zones" = some (.ref fZ)) (GZ : FnOk P w K mg base (L2.CX P w) 8 fZ dZ ["asks"] (spZones K C cB cT)) (kZ : PySem.W.keepIn K (.ref fZ) = true) (bZ : Binds K dZ ["asks"] []) : FnOk P w K mg base (L2.CX P w) 9 f fd ["asks"] (spTellable K C cB cT) := by
  obtain ⟨fE, dE, gE, GE, kE, bE⟩ := O.early.ex
  obtain ⟨fO, dO, gO, GO, kO, bO⟩ := O.odds.ex
  obtain ⟨fC, dC, gC, GC, kC, bC⟩ := O.last.ex
  refine F.okX scTell (fun vs H Q E h => ?_) (fun cdv A' outer s H vs Q E hr h => ?_)
  · obtain ⟨v, rfl, _⟩ := h
    rfl
  · obtain ⟨v, rfl, h⟩ := h
    have hr8 : Room 8 _ := hr
    have hr1 : Room 1 _ := hr.mono (by decide)
    refine ⟨_, (pss_cons (ps_set (i := 1) scTell.nd rfl (Or.inr rfl) (pe_call GZ hr8 (by rfl) gZ kZ bZ .nil (passes_call (takes_of rfl rfl rfl rfl) fun _ _ _ _ z => z) (pa_cons (pv 0) pa_nil)))
(pss_cons (ps_if (PW.pt (pw_or (pt_cmpR op_gt (pe_callB call_len (by rfl) T.len PySem.boot_len (pa_cons (pe_call GE hr8 (by rfl) gE kE bE .nil pass0 (pa_cons (pv 0) pa_nil)) pa_nil)) pe_int (nomark _)) (pw_or1 (pt_cmpR op_notN (pe_call GO hr1 (by rfl) gO kO bO .nil pass0 (pa_cons (pv 1) pa_nil)) pe_non (nomark _)))))
(pss_one (ps_ret (pe_tup pa_nil)))
pss_nil)
(pss_cons (ps_set (i := 2) scTell.nd rfl (Or.inr rfl) (pe_dcN (own := [("lot", 3), ("_", 4)]) (by rfl) scTell.nd (pi_sq (pv 1)) (blkOk_by (own := [("lot", 3), ("_", 4)]) (N := ["asks", "told", "there", "lot", "_", "free", "at", "last", "row", "puts"]) (sc := defScope sTellable) (by decide +kernel)) (fun _ _ _ _ _ => pg_tupK (n := 3) K rfl ((pgs_cons (pg_name (i := 3) scTell.nd rfl (Or.inl rfl)) (pgs_cons (pg_name (i := 4) scTell.nd rfl (Or.inl rfl)) (pgs_cons (pg_name (i := 4) scTell.nd rfl (Or.inl rfl)) pgs_nil))))) (fun _ _ _ _ _ => pts_nil) (fun _ _ _ _ _ => pv 3) (fun _ _ _ _ _ => pe_bl)))
(pss_cons (ps_setLc (i := 5) (own := [("at", 6)]) (g := gName 6) (by rfl) scTell.nd rfl rfl (sw_true rfl rfl rfl (by decide +kernel)) (pi_range1 (by rfl) T.range (pa_cons (pe_callB call_len (by rfl) T.len PySem.boot_len (pa_cons (pv 0) pa_nil)) pa_nil)) (blkOk_by (own := [("at", 6)]) (N := ["asks", "told", "there", "lot", "_", "free", "at", "last", "row", "puts"]) (sc := defScope sTellable) (by decide +kernel)) (fun _ _ _ _ _ => pg_name (i := 6) scTell.nd rfl (Or.inl rfl)) (fun _ _ _ _ _ => pts_one (PW.pt (pw_and (pt_cmpR op_eq (pe_fldK K (pe_ix (ix_seqK K) (pv 0) (pv 6) (fun _ _ => rfl)) rfl) pe_str (nomark _)) (pw_and1 (pt_cmp (pc_nnotinK P w (pv 6) (pv 2))))))) (fun _ _ _ _ _ => pv 6))
(pss_cons (ps_setLc (i := 7) (own := [("row", 8)]) (g := gName 8) (by rfl) scTell.nd rfl rfl (sw_true rfl rfl rfl (by decide +kernel)) (pi_sq (pv 1)) (blkOk_by (own := [("row", 8)]) (N := ["asks", "told", "there", "lot", "_", "free", "at", "last", "row", "puts"]) (sc := defScope sTellable) (by decide +kernel)) (fun _ _ _ _ _ => pg_name (i := 8) scTell.nd rfl (Or.inl rfl)) (fun _ _ _ _ _ => pts_one (PW.pt (pw_and (pt_cmpR op_notN (pe_ix (ix_seqK K) (pv 8) pe_int (fun _ _ => rfl)) pe_non (nomark _)) (pw_and1 (pt_val (pe_call GC hr1 (by rfl) gC kC bC .nil pass0 (pa_cons (pv 1) (pa_cons (pv 8) pa_nil)))))))) (fun _ _ _ _ _ => pe_ix (ix_seqK K) (pv 8) pe_int (fun _ _ => rfl)))
(pss_cons (ps_set (i := 9) scTell.nd rfl (Or.inl rfl) (pe_callB cr_sortedI (by rfl) T.sorted (by decide +kernel) (pa_cons (pe_lst (StX.pa_star (pv 5) (StX.pa_star (pv 7) pa_nil))) pa_nil)))
(pss_cons (ps_if (pt_cmpR op_gt (pe_callB call_len (by rfl) T.len PySem.boot_len (pa_cons (pe_lock (pe_lc (own := [("lot", 3)]) (g := gName 3) (by rfl) scTell.nd (pi_nkK P w (pv 2)) (blkOk_by (own := [("lot", 3)]) (N := ["asks", "told", "there", "lot", "_", "free", "at", "last", "row", "puts"]) (sc := defScope sTellable) (by decide +kernel)) (fun _ _ _ _ _ => pg_name (i := 3) scTell.nd rfl (Or.inl rfl)) (fun _ _ _ _ _ => pts_one (pt_cmpR op_notN (pv 3) pe_non (nomark _))) (fun _ _ _ _ _ => pv 3))) pa_nil)) pe_int (nomark _))
(pss_one (ps_ret (pe_callTy call_tuple_of (by rfl) T.tuple (by decide +kernel) (pa_cons (pv 9) pa_nil))))
pss_nil)
(pss_one (ps_ret (pe_tup (pa_cons pe_non (StX.pa_star (pv 9) pa_nil)))))))))))), ?_⟩
    refine ⟨v, rfl, v, rfl, h.imp fun a rs e hh hl ok nb ⟨q0, q1⟩ z H1 s1 hz => ?_⟩
    subst e
    refine ⟨.ref a, rfl, a, rs, rfl, hh.mono s1, hl, ok, nb, fun p H2 s2 hp2 => ?_⟩
    refine ⟨.ref p, (nats (earlyOf rs)).length, rfl, .inl ⟨_, SqL.of hp2, rfl⟩, _, _, rfl, rfl, _, rfl, ?_⟩
    rw [show decide ((0 : Int) < ((nats (earlyOf rs)).length : Nat)) = !(earlyOf rs).isEmpty from by cases earlyOf rs <;> simp [nats]]
    have hz2 : ZonesAt H2 z (zonesOf rs) := by
      obtain ⟨qs, h1, h2, h3⟩ := hz
      exact ⟨qs, s2 _ _ h1, h2, fun i q u e1 e2 => s2 _ _ (h3 i q u e1 e2)⟩
    cases he : earlyOf rs with
    | cons x l => exact iteT' (iteT' ⟨Nat.zero_le _, fun p3 hp3 => q0 (fun od => by rw [od.1] at he; cases he) p3 _ ((s1.trans s2).trans (same_new hp3)) upd_same⟩)
    | nil =>
    refine iteF' ⟨.ref z, rfl, z, _, rfl, hz2, Nat.le_trans (zones_le rs) (by omega), fun no H3 s3 => ⟨rfl, false, rfl, iteF' ?_⟩, fun i zi x l ei ea _ p2 H3 s3 _ => ⟨rfl, true, rfl, iteT' ⟨Nat.zero_le _, fun p3 hp3 => q0 (fun od => by rw [od.2 i] at ea; cases ea) p3 _ (((s1.trans s2).trans s3).trans (same_new hp3)) upd_same⟩⟩⟩
    have q := q1 ⟨he, no⟩
    have hzl : (zonesOf rs).length ≤ 1002 := Nat.le_trans (zones_le rs) (by omega)
    have sH := (s1.trans s2).trans s3
    have hz3 : ZonesAt H3 z (zonesOf rs) := by
      obtain ⟨qs, h1, h2, h3⟩ := hz2
      exact ⟨qs, s3 _ _ h1, h2, fun i q u e1 e2 => s3 _ _ (h3 i q u e1 e2)⟩
    have h3 := hh.mono sH
    clear hz hz2 hp2 s1 s2 s3 q0 q1 h
    generalize zonesOf rs = zs at q hzl hz3
    obtain ⟨qs, ha, lq, hq⟩ := id hz3
    refine ⟨.ref z, rfl, z, _, rfl, .inr (SqT.of ha), fun J G wk hG D hD => ?_⟩
    refine dn_it wk (fun i H' => H' = upd H3 D (DN P w D (bv (thL (zs.take i))))) rfl (fun i H' _ e => hG _ (by rw [e]; exact same_new hD)) ?_ ?_
    · rintro k x1 H4 H5 hk rfl ⟨rfl, hx⟩
      have hkq : k < qs.length := by rw [List.length_map] at hk; exact hk
      have hkz : k < zs.length := by omega
      have ex : x1 = .ref qs[k] := by
        rw [List.getElem?_map, List.getElem?_eq_getElem hkq] at hx
        exact (Option.some.inj hx).symm
      subst ex
      have zk := (same_new (o := DN P w D (bv (thL (zs.take k)))) hD) _ _ (hq k qs[k] zs[k] (List.getElem?_eq_getElem hkq) (List.getElem?_eq_getElem hkz))
      have ln : (bv (thL (zs.take k))).length < sizeLine := by
        rw [bv_len]
        have h1 := th_len (zs.take k)
        rw [List.length_take] at h1
        exact Nat.lt_of_le_of_lt (show _ ≤ 1002 by omega) (by decide)
      rw [th_take hkz]
      generalize zs[k] = u at zk ⊢
      generalize thL (zs.take k) = us at zk ln ⊢
      refine ⟨_, _, rfl, SqT.of zk, rfl, _, _, rfl, _, _, rfl, _, _, rfl, rfl, rfl, ?_⟩
      refine yes_go ⟨oV u.1, rfl, bv us, nk u.1, (nk_v u.1).symm, upd_same, ln, ?_⟩
      rw [upd_upd, bv_put]
      rfl
    rintro H4 rfl
    rw [List.length_map, lq, List.take_of_length_le (Nat.le_refl _)]
    have s4 : Same H3 (upd H3 D (DN P w D (bv (thL zs)))) := same_new hD
    have hD4 : upd H3 D (DN P w D (bv (thL zs))) D = some (DN P w D (bv (thL zs))) := upd_same
    generalize upd H3 D (DN P w D (bv (thL zs))) = H4 at s4 hD4 ⊢
    have h4 := h3.mono s4
    obtain ⟨ps, sq, h2⟩ := h4.sq
    have nl : (ps.map V.ref).length = rs.length := by rw [List.length_map, h2.1]
    refine ⟨.ref a, rfl, .ref a, (ps.map V.ref).length, rfl, sq.len, ((ps.map V.ref).length : Nat), rfl, by omega, by rw [nl]; omega, fun D2 hD2 => ?_⟩
    rw [Int.toNat_natCast, nl]
    refine lc_it (walk_range (lo := 0) (n := rs.length)) (fun i H' => H' = upd H4 D2 (.lst (nats ((List.range i).filter fun i => isPutAt rs i && !thereB zs i)))) rfl (fun _ _ _ _ => True.intro) ?_ ?_
    · rintro i x H5 H6 hi rfl ⟨rfl, rfl⟩
      show gName 6 (V.int (0 + (i : Int))) _ _ _
      rw [Int.zero_add]
      have er : rs[i]? = some rs[i] := List.getElem?_eq_getElem hi
      have sD := same_new (o := .lst (nats ((List.range i).filter fun i => isPutAt rs i && !thereB zs i))) hD2
      obtain ⟨p, dx, xs, sq2, at1, hp⟩ := (h4.mono sD).at er
      have hDk := sD _ _ hD4
      have nx : nats ((List.range (i + 1)).filter fun i => isPutAt rs i && !thereB zs i) = if (isPutAt rs i && !thereB zs i) = true then nats ((List.range i).filter fun i => isPutAt rs i && !thereB zs i) ++ [V.int (i : Int)] else nats ((List.range i).filter fun i => isPutAt rs i && !thereB zs i) := by
        rw [List.range_succ, List.filter_append]
        cases c : (isPutAt rs i && !thereB zs i) with
        | true => rw [if_pos rfl]; simp [nats, c]
        | false => rw [if_neg (by decide)]; simp [c]
      have al : (nats ((List.range i).filter fun i => isPutAt rs i && !thereB zs i)).length < sizeLine := by
        have : (nats ((List.range i).filter fun i => isPutAt rs i && !thereB zs i)).length ≤ i := by
          unfold nats
          rw [List.length_map]
          exact Nat.le_trans (List.length_filter_le _ _) (by simp)
        exact Nat.lt_of_le_of_lt this (Nat.lt_of_lt_of_le (show i < 1000 by omega) (by decide))
      have ip : isPutAt rs i = !rs[i].g := by unfold isPutAt; rw [er]
      generalize rs[i] = r at hp ip er
      generalize hF : nats ((List.range i).filter fun i => isPutAt rs i && !thereB zs i) = F at nx al sq2 hp hDk ⊢
      have isY : (isPutAt rs i && !thereB zs i) = true → upd (upd H4 D2 (.lst F)) D2 (.lst (F ++ [V.int (i : Int)])) = upd H4 D2 (.lst (nats ((List.range (i + 1)).filter fun i => isPutAt rs i && !thereB zs i))) := fun z => by
        rw [upd_upd, nx, if_pos z]
      have isN : (isPutAt rs i && !thereB zs i) = false → upd H4 D2 (.lst F) = upd H4 D2 (.lst (nats ((List.range (i + 1)).filter fun i => isPutAt rs i && !thereB zs i))) := fun z => by
        rw [nx, if_neg (by rw [z]; decide)]
      refine ⟨rfl, .ref a, rfl, .int i, rfl, Sq.ix sq2 at1 ⟨p, C, dx, flds r, .str (wd r.g), rfl, hp, A.cl, A.nw, rfl, rfl, !r.g, (by cases r.g <;> decide +kernel), ?_⟩⟩
      cases hg : r.g with
      | true => exact iteF' (iteF' (isN (by rw [ip, hg]; rfl)))
      | false =>
        refine iteT' ⟨.int i, rfl, .ref D, rfl, D, bv (thL zs), nk (some (i : Int)), rfl, .inl hDk, rfl, !thereB zs i, by rw [bv_in, th_in], ?_⟩
        cases ht : thereB zs i with
        | true => exact iteF' (isN (by rw [ip, hg, ht]; rfl))
        | false => exact iteT' ⟨_, rfl, _, upd_same, al, isY (by rw [ip, hg, ht]; rfl)⟩
    rintro H5 rfl
    have s5 : Same H4 (upd H4 D2 (.lst (nats (freeOf rs zs)))) := same_new hD2
    have hF5 : upd H4 D2 (.lst (nats (freeOf rs zs))) D2 = some (.lst (nats (freeOf rs zs))) := upd_same
    have hD5 := s5 _ _ hD4
    show tSeq _ _ _ _ (upd H4 D2 (.lst (nats (freeOf rs zs))))
    generalize upd H4 D2 (.lst (nats (freeOf rs zs))) = H5 at s5 hF5 hD5 ⊢
    have s35 := s4.trans s5
    refine ⟨.ref z, rfl, z, _, rfl, .inr (SqT.of (s35 _ _ ha)), fun J G wk hG D4 hD4' => ?_⟩
    refine lc_it wk (fun k H' => H' D4 = some (.lst ((lastIn zs (zs.take k)).map V.int)) ∧ Same H5 H') ⟨upd_same, same_new hD4'⟩ (fun i H' _ e => hG _ e.2) ?_ ?_
    · rintro k x1 H6 H7 hk ⟨hL6, s6⟩ ⟨rfl, hx⟩
      have hkq : k < qs.length := by rw [List.length_map] at hk; exact hk
      have hkz : k < zs.length := by omega
      have ex : x1 = .ref qs[k] := by
        rw [List.getElem?_map, List.getElem?_eq_getElem hkq] at hx
        exact (Option.some.inj hx).symm
      subst ex
      have s36 := s35.trans s6
      have zk := s36 _ _ (hq k qs[k] zs[k] (List.getElem?_eq_getElem hkq) (List.getElem?_eq_getElem hkz))
      have zzs : ZonesAt H7 z zs := ⟨qs, s36 _ _ ha, lq, fun i q u e1 e2 => s36 _ _ (hq i q u e1 e2)⟩
      have tk : lastIn zs (zs.take (k + 1)) = lastIn zs (zs.take k) ++ (if (zs[k].1.isSome && canLast zs zs[k]) = true then zs[k].1.toList else []) := by
        unfold lastIn
        rw [List.take_add_one, List.getElem?_eq_getElem hkz, List.filter_append, List.filterMap_append]
        congr 1
        show List.filterMap _ (List.filter _ [zs[k]]) = _
        rw [List.filter_cons]
        cases c : (zs[k].1.isSome && canLast zs zs[k]) with
        | false => rfl
        | true =>
          rw [if_pos rfl, if_pos rfl]
          cases c2 : zs[k].1 with
          | none => simp [c2]
          | some v => simp [c2]
      rw [tk]
      have ln : ((lastIn zs (zs.take k)).map V.int).length < sizeLine := by
        rw [List.length_map]
        unfold lastIn
        refine Nat.lt_of_le_of_lt (Nat.le_trans (List.length_filterMap_le _ _) (Nat.le_trans (List.length_filter_le _ _) (show _ ≤ 1002 from ?_))) (by decide)
        rw [List.length_take]
        omega
      generalize zs[k] = u at zk ⊢
      generalize lastIn zs (zs.take k) = us at ln hL6 ⊢
      have zq : Sq K H7 qs[k] _ := .inr (SqT.of zk)
      refine ⟨rfl, .ref qs[k], rfl, Sq.ix zq (show atI _ 0 = some (oV u.1) from at_nat (i := 0) rfl) ⟨rfl, u.1.isSome, (by cases u.1 <;> rfl), ?_⟩⟩
      cases hu : u.1 with
      | none =>
        refine iteF' (iteF' ⟨?_, s6⟩)
        rw [if_neg (fun z => nomatch z), List.append_nil]
        exact hL6
      | some v =>
        refine iteT' ⟨.ref z, rfl, .ref qs[k], rfl, z, zs, qs[k], u, rfl, zzs, hzl, zk, fun H8 s8 => ⟨canLast zs u, rfl, ?_⟩⟩
        have hL8 := s8 _ _ hL6
        cases hc : canLast zs u with
        | false =>
          refine iteF' ⟨?_, s6.trans s8⟩
          rw [if_neg (fun z => nomatch z), List.append_nil]
          exact hL8
        | true =>
          have zq8 : Sq K H8 qs[k] _ := .inr (SqT.of (s8 _ _ zk))
          refine iteT' ⟨.ref qs[k], rfl, Sq.ix zq8 (show atI _ 0 = some (oV u.1) from at_nat (i := 0) rfl) ⟨_, hL8, ln, ?_, fun b o e => ?_⟩⟩
          · rw [upd_same, hu, if_pos (show ((some v).isSome && true) = true from rfl), List.map_append]
            rfl
          · rw [upd_ne (ne_of_none e hD4')]
            exact s8 _ _ (s6 b o e)
    rintro H6 ⟨hL6, s6⟩
    have e6 : lastIn zs (zs.take (qs.map V.ref).length) = lastOf zs := by
      rw [List.length_map, lq, List.take_of_length_le (Nat.le_refl _)]
      rfl
    rw [e6] at hL6
    have hF6 := s6 _ _ hF5
    have hD6 := s6 _ _ hD5
    have s36 := s35.trans s6
    refine ⟨.ref D2, rfl, D2, _, rfl, .inr (SqL.of hF6), .ref D4, rfl, D4, _, rfl, .inr (SqL.of hL6), ?_, fun L hL => ?_⟩
    · have l1 : (nats (freeOf rs zs)).length ≤ 1000 := by
        unfold nats freeOf
        rw [List.length_map]
        exact Nat.le_trans (List.length_filter_le _ _) (by simpa using hl)
      have l2 : ((lastOf zs).map V.int).length ≤ 1002 := by
        rw [List.length_map]
        unfold lastOf lastIn
        exact Nat.le_trans (List.length_filterMap_le _ _) (Nat.le_trans (List.length_filter_le _ _) hzl)
      rw [List.length_append, List.append_nil]
      exact Nat.le_trans (Nat.add_le_add l1 l2) (by decide)
    have eF : nats (freeOf rs zs) ++ ((lastOf zs).map V.int ++ []) = ((freeOf rs zs).map (fun (n : Nat) => (n : Int)) ++ lastOf zs).map V.int := by
      rw [List.append_nil, List.map_append, List.map_map]
      rfl
    rw [eF]
    refine ⟨L, _, rfl, SqL.of upd_same, fun ns p perm asc hp => ?_⟩
    have s7 : Same H6 (upd (upd H6 L (.lst (((freeOf rs zs).map (fun (n : Nat) => (n : Int)) ++ lastOf zs).map V.int))) p (.lst (ns.map V.int))) := (same_new hL).trans (same_new hp)
    have hp7 : upd (upd H6 L (.lst (((freeOf rs zs).map (fun (n : Nat) => (n : Int)) ++ lastOf zs).map V.int))) p (.lst (ns.map V.int)) p = some (.lst (ns.map V.int)) := upd_same
    generalize upd (upd H6 L (.lst (((freeOf rs zs).map (fun (n : Nat) => (n : Int)) ++ lastOf zs).map V.int))) p (.lst (ns.map V.int)) = H7 at s7 hp7 ⊢
    have hD7 := s7 _ _ hD6
    have sAll : Same H H7 := sH.trans (s36.trans s7)
    refine ⟨D, _, hD7, DN.mut, fun od => ?_⟩
    refine ⟨.ref D, rfl, D, od, bv (thL zs), rfl, upd_same, fun M hM => ?_⟩
    have nM : M ≠ D := fun z => by rw [z, upd_same] at hM; cases hM
    have tl : (thL zs).length ≤ 1002 := Nat.le_trans (th_len zs) hzl
    refine lc_it walk_nk (fun i H' => H' = upd (upd H7 D (.frz od (DN P w D (bv (thL zs))))) M (.lst ((((thL zs).take i).filter (·.isSome)).map oV))) rfl (fun i H' _ e => by rw [e, upd_ne nM.symm]; exact upd_same) ?_ ?_
    · rintro i x H8 H9 hi rfl ⟨rfl, kk, vv, hx, rfl⟩
      have hi2 : i < (thL zs).length := by rw [bv_len] at hi; exact hi
      have ek : kk = nk (thL zs)[i] := by
        unfold bv at hx
        rw [List.getElem?_map, List.getElem?_eq_getElem hi2] at hx
        exact (congrArg (·.1) (Option.some.inj hx)).symm
      subst ek
      have tk : ((thL zs).take (i + 1)).filter (·.isSome) = ((thL zs).take i).filter (·.isSome) ++ (if (thL zs)[i].isSome = true then [(thL zs)[i]] else []) := by
        rw [List.take_add_one, List.getElem?_eq_getElem hi2, List.filter_append]
        congr 1
        show List.filter _ [(thL zs)[i]] = _
        rw [List.filter_cons]
        rfl
      have ln : ((((thL zs).take i).filter (·.isSome)).map oV).length < sizeLine := by
        rw [List.length_map]
        refine Nat.lt_of_le_of_lt (Nat.le_trans (List.length_filter_le _ _) (show _ ≤ 1002 from ?_)) (by decide)
        rw [List.length_take]
        omega
      rw [tk]
      generalize (thL zs)[i] = o at ⊢
      generalize ((thL zs).take i).filter (·.isSome) = us at ln ⊢
      refine ⟨rfl, nV (nk o), rfl, rfl, o.isSome, (by cases o <;> rfl), ?_⟩
      cases o with
      | none =>
        refine iteF' ?_
        show _ = _
        rw [if_neg (fun z => nomatch z), List.append_nil]
      | some m =>
        refine iteT' ⟨nV (nk (some m)), rfl, _, upd_same, ln, ?_⟩
        rw [upd_upd, if_pos (show (some m).isSome = true from rfl), List.map_append]
        rfl
    rintro H8 rfl
    refine ⟨by rw [upd_ne nM.symm]; exact upd_same, ?_⟩
    have e8 : (((thL zs).take (bv (thL zs)).length).filter (·.isSome)).map oV = ((thL zs).filter (·.isSome)).map oV := by rw [bv_len, List.take_of_length_le (Nat.le_refl _)]
    rw [e8]
    have bk : upd (upd (upd H7 D (.frz od (DN P w D (bv (thL zs))))) M (.lst (((thL zs).filter (·.isSome)).map oV))) D (DN P w D (bv (thL zs))) = upd H7 M (.lst (((thL zs).filter (·.isSome)).map oV)) := by
      funext x
      unfold upd
      by_cases x1 : x = D
      · subst x1
        rw [if_pos rfl, if_neg nM.symm]
        exact hD7.symm
      · rw [if_neg x1]
        by_cases x2 : x = M
        · rw [if_pos x2, if_pos x2]
        · rw [if_neg x2, if_neg x2, if_neg x1]
    have nM7 : H7 M = none := by rw [upd_ne nM] at hM; exact hM
    have s8 : Same H7 (upd H7 M (.lst (((thL zs).filter (·.isSome)).map oV))) := same_new nM7
    have hM8 : upd H7 M (.lst (((thL zs).filter (·.isSome)).map oV)) M = some (.lst (((thL zs).filter (·.isSome)).map oV)) := upd_same
    refine ⟨.ref M, (((thL zs).filter (·.isSome)).map oV).length, rfl, .inl ⟨_, SqL.of (by rw [bk]; exact hM8), rfl⟩, _, _, rfl, rfl, _, rfl, ?_⟩
    rw [bk]
    rw [show decide ((0 : Int) < ((((thL zs).filter (·.isSome)).map oV).length : Nat)) = someB zs from by rw [← th_some, List.length_map]; cases (thL zs).filter (·.isSome) <;> simp]
    generalize upd H7 M (.lst (((thL zs).filter (·.isSome)).map oV)) = H8 at s8 hM8 ⊢
    have hp8 := s8 _ _ hp7
    have q := fun p H' => q ns p H' perm asc
    cases hs : someB zs with
    | true =>
      rw [hs, if_pos rfl] at q
      exact iteT' ⟨.ref p, rfl, p, _, rfl, .inl ⟨SqL.of hp8, fun l hl => q l _ (sAll.trans (s8.trans (same_new hl))) upd_same⟩⟩
    | false =>
      rw [hs, if_neg (by decide)] at q
      refine iteF' ⟨.ref p, rfl, p, _, rfl, .inr (SqL.of hp8), ?_, fun l hl => q l _ (sAll.trans (s8.trans (same_new hl))) ?_⟩
      · have l0 := perm.length_eq
        have l1 : ((freeOf rs zs).map (fun (n : Nat) => (n : Int))).length ≤ 1000 := by
          unfold freeOf
          rw [List.length_map]
          exact Nat.le_trans (List.length_filter_le _ _) (by simpa using hl)
        have l2 : (lastOf zs).length ≤ 1002 := by
          unfold lastOf lastIn
          exact Nat.le_trans (List.length_filterMap_le _ _) (Nat.le_trans (List.length_filter_le _ _) hzl)
        rw [List.length_append] at l0
        rw [List.append_nil, List.length_cons, List.length_map, l0]
        exact Nat.le_trans (Nat.succ_le_succ (Nat.add_le_add l1 l2)) (by decide)
      · rw [upd_same, List.append_nil]
end
end K36
end

section
set_option Elab.async false
set_option linter.all false
set_option maxRecDepth 100000
set_option maxHeartbeats 4000000
/-! the asks that play a part, by the law -/
namespace K36
open PySem L2 KZ
abbrev sLAhead : Stmt := top 36
def spLParts : Sp := fun vs H Q _ => ∃ a rs, vs = [.ref a] ∧ RowsAt H a rs ∧ rs.length ≤ 1000 ∧ (∀ r ∈ rs, r.Ok) ∧ firstBad rs = none ∧ ∀ p H', Same H H' → H' p = some (.lst (nats (partsOf rs))) → Q (.ref p) H'
def tkv (l : List Int) : List (Key × V) := l.map fun i => (.inl i, .bl true)
theorem tkv_in : ∀ (l : List Int) (acc : List (Key × V)) (i : Int), (valV (mergeK acc (tkv l)) (.inl i)).isSome = ((valV acc (.inl i)).isSome || l.any fun j => decide (j = i))
  | [], acc, i => by
    show (valV acc (.inl i)).isSome = _
    rw [List.any_nil, Bool.or_false]
  | j :: l, acc, i => by
    show (valV (mergeK (putK acc (.inl j) (.bl true)) (tkv l)) (.inl i)).isSome = _
    rw [tkv_in l, valV_put, List.any_cons]
    by_cases e : i = j
    · subst e
      rw [if_pos rfl, decide_eq_true rfl]
      cases (valV acc (.inl i)).isSome <;> rfl
    · rw [if_neg (fun z => e (Sum.inl.inj z)), decide_eq_false (fun z => e z.symm), Bool.false_or]
def TPs (H : Hp) (ts : List Addr) (l : List Int) : Prop := Paired (fun p (kv : Key × V) => H p = some (.tup [kV kv.1, kv.2])) ts (tkv l)
theorem TPs.mono {H H' : Hp} {ts : List Addr} {l : List Int} (h : TPs H ts l) (k : ∀ p x, H p = some (.tup x) → H' p = some (.tup x)) : TPs H' ts l := Paired.mapP h fun _ _ z => k _ _ z
theorem TPs.snoc {H : Hp} {ts : List Addr} {l : List Int} {t : Addr} {i : Int} (h : TPs H ts l) (e : H t = some (.tup [.int i, .bl true])) : TPs H (ts ++ [t]) (l ++ [i]) := by
  unfold TPs tkv
  rw [List.map_append]
  exact Paired.snoc h e
section
variable {P : Program} {w : World} {K : PySem.W.Frag} {mg : Str → Option Value} {base : Heap} {fL : Addr} {dL : FuncData}
theorem scLParts : FnScope ["rows", "told", "row", "at"] ["rows"] (defScope sLParts) := ⟨rfl, rfl, rfl, by decide +kernel, rfl, by decide +kernel, by decide +kernel⟩
theorem ok_lparts {f : Addr} {fd : FuncData} (F : Fun K "_law_parts" "_law_parts" sLParts f fd) (T : B1 mg) : FnOk P w K mg base CX0 1 f fd ["rows"] spLParts := by
  refine F.ok scLParts (fun vs H Q E h => ?_) (fun cdv A' outer s H vs Q E hr h => ?_)
  · obtain ⟨a, rs, rfl, _⟩ := h
    rfl
  · obtain ⟨a, rs, rfl, hh, hl, ok, nb, q⟩ := h
    have huB := Nat.lt_of_le_of_lt (Nat.add_le_add_left (show 1 ≤ 64 by decide) _) hr.units
    refine ⟨_, (pss_cons (ps_set (i := 1) scLParts.nd rfl (Or.inr rfl) (pe_callTy (call_dictP rfl) (by rfl) T.dict (by decide +kernel) (pa_cons (pe_lc (own := [("row", 2)]) (g := gName 2) (by rfl) scLParts.nd (pi_list (pv 0)) (blkOk_by (own := [("row", 2)]) (N := ["rows", "told", "row", "at"]) (sc := defScope sLParts) (by decide +kernel)) (fun _ _ _ _ _ => pg_name (i := 2) scLParts.nd rfl (Or.inl rfl)) (fun _ _ _ _ _ => pts_one (pt_cmpR op_notN (pe_ix (ix_seqK K) (pv 2) pe_int (fun _ _ => rfl)) pe_non (nomark _))) (fun _ _ _ _ _ => pe_tup (pa_cons (pe_ix (ix_seqK K) (pv 2) pe_int (fun _ _ => rfl)) (pa_cons pe_bl pa_nil)))) pa_nil)))
(pss_one (ps_ret (pe_lc (own := [("at", 3), ("row", 2)]) (by rfl) scLParts.nd (pi_enum (by rfl) T.enum (pa_cons (pv 0) pa_nil)) (blkOk_by (own := [("at", 3), ("row", 2)]) (N := ["rows", "told", "row", "at"]) (sc := defScope sLParts) (by decide +kernel)) (fun _ _ _ _ _ => pg_tupK (n := 2) K rfl ((pgs_cons (pg_name (i := 3) scLParts.nd rfl (Or.inl rfl)) (pgs_cons (pg_name (i := 2) scLParts.nd rfl (Or.inl rfl)) pgs_nil)))) (fun _ _ _ _ _ => pts_one (PW.pt (pw_or (pt_cmpR op_notN (pe_ix (ix_seqK K) (pv 2) pe_int (fun _ _ => rfl)) pe_non (nomark _)) (pw_or1 (pt_cmp (pc_din huB (pv 3) (pv 1))))))) (fun _ _ _ _ _ => pv 3))))), ?_⟩
    obtain ⟨ps, ha, lp, hp⟩ := hh
    refine ⟨.ref a, rfl, a, rfl, ⟨_, SqL.of ha⟩, fun D hD => ?_⟩
    refine lc_it (walk_list (K := K) (a := a) (xs := ps.map V.ref)) (fun i H' => ∃ ts : List Addr, H' D = some (.lst (ts.map V.ref)) ∧ TPs H' ts (toldI (rs.take i)) ∧ Same H H') ⟨[], upd_same, .nil, same_new hD⟩ (fun i H' _ ⟨_, _, _, s⟩ => SqL.of (s _ _ ha)) ?_ ?_
    · rintro i x H2 H3 hi ⟨ts, hD2, tp, s2⟩ ⟨rfl, hx⟩
      have hi2 : i < ps.length := by rw [List.length_map] at hi; exact hi
      have hi3 : i < rs.length := by rw [← lp]; exact hi2
      have ex : x = .ref ps[i] := by
        rw [List.getElem?_map, List.getElem?_eq_getElem hi2] at hx
        exact (Option.some.inj hx).symm
      subst ex
      have row := s2 _ _ (hp i ps[i] rs[i] (List.getElem?_eq_getElem hi2) (List.getElem?_eq_getElem hi3))
      have tk : toldI (rs.take (i + 1)) = toldI (rs.take i) ++ rs[i].t.toList := by
        have one : ∀ r : Row, [r].filterMap (·.t) = r.t.toList := fun r => by cases h : r.t <;> simp [List.filterMap, h]
        unfold toldI
        rw [List.take_add_one, List.getElem?_eq_getElem hi3, List.filterMap_append]
        exact congrArg (List.filterMap (·.t) (rs.take i) ++ ·) (one rs[i])
      have l1 : (toldI (rs.take i)).length ≤ i := by
        unfold toldI
        refine Nat.le_trans (List.length_filterMap_le _ _) ?_
        rw [List.length_take]
        omega
      have l2 : ts.length = (toldI (rs.take i)).length := by
        have := Paired.length tp
        unfold tkv at this
        rw [List.length_map] at this
        exact this
      rw [tk]
      generalize rs[i] = r at row ⊢
      generalize toldI (rs.take i) = ls at tp l1 l2 ⊢
      have sq : Sq K _ ps[i] (rowV r) := .inr (SqT.of row)
      refine ⟨rfl, .ref ps[i], rfl, Sq.ix sq rfl ⟨rfl, r.t.isSome, (by cases r.t <;> rfl), ?_⟩⟩
      cases ht : r.t with
      | none =>
        refine iteF' ⟨ts, hD2, ?_, s2⟩
        rw [show (none : Option Int).toList = [] from rfl, List.append_nil]
        exact tp
      | some m =>
        refine iteT' ⟨.ref ps[i], rfl, Sq.ix sq (show atI (rowV r) 4 = some (.int m) from by unfold rowV; rw [ht]; rfl) ⟨(by show 2 ≤ sizeLine; decide), fun t ht2 => ?_⟩⟩
        have nT : t ≠ D := fun z => by rw [z, hD2] at ht2; cases ht2
        have s3 := s2.trans (same_new (o := .tup [.int m, .bl true]) ht2)
        refine ⟨_, by rw [upd_ne nT.symm]; exact hD2, ?_, ts ++ [t], ?_, ?_, fun b o e => ?_⟩
        · rw [List.length_map, l2]
          exact Nat.lt_of_le_of_lt (Nat.le_trans l1 (show i ≤ 1000 by omega)) (by decide)
        · rw [upd_same, List.map_append]
          rfl
        · refine TPs.snoc (tp.mono fun p x e => ?_) ?_
          · rw [upd_ne (fun z => by rw [z, hD2] at e; cases e), upd_ne (ne_of_none e ht2)]
            exact e
          · rw [upd_ne nT]
            exact upd_same
        · rw [upd_ne (ne_of_none e hD)]
          exact s3 b o e
    rintro H2 ⟨ts, hD2, tp, s2⟩
    have e0 : toldI (rs.take (ps.map V.ref).length) = toldI rs := by rw [List.length_map, lp, List.take_of_length_le (Nat.le_refl _)]
    rw [e0] at tp
    refine ⟨D, ts, tkv (toldI rs), rfl, SqL.of hD2, Paired.mapP tp fun _ _ z => SqT.of z, fun T0' hT0' => ?_⟩
    have s1 : Same H (upd H2 T0' (.dK (mergeK [] (tkv (toldI rs))))) := s2.trans (same_new hT0')
    have hd1 : upd H2 T0' (.dK (mergeK [] (tkv (toldI rs)))) T0' = some (.dK (mergeK [] (tkv (toldI rs)))) := upd_same
    generalize upd H2 T0' (.dK (mergeK [] (tkv (toldI rs)))) = H1 at s1 hd1 ⊢
    have ha1 := s1 _ _ ha
    refine ⟨.ref a, rfl, a, _, rfl, SqL.of ha1, fun G hG => ?_⟩
    refine lc_it (walk_enum (K := K) (a := a) (xs := ps.map V.ref)) (fun i H' => H' G = some (.lst (nats ((List.range i).filter (isPart rs)))) ∧ Same H1 H') ⟨upd_same, same_new hG⟩ (fun i H' _ e => SqL.of (e.2 _ _ ha1)) ?_ ?_
    · rintro i x H2 H3 hi ⟨hg, s2⟩ ⟨T0, xa, xb, rfl, hT0, rfl, ea, eb⟩
      have hi2 : i < ps.length := by rw [List.length_map] at hi; exact hi
      have hi3 : i < rs.length := by rw [← lp]; exact hi2
      cases ea
      have eb' : xb = .ref ps[i] := by
        dsimp only at eb
        rw [List.getElem?_map, List.getElem?_eq_getElem hi2] at eb
        exact (Option.some.inj eb).symm
      subst eb'
      have s3 := s2.trans (same_new (o := .tup [.int (i : Nat), .ref ps[i]]) hT0)
      have row := (s1.trans s3) _ _ (hp i ps[i] rs[i] (List.getElem?_eq_getElem hi2) (List.getElem?_eq_getElem hi3))
      have nT : G ≠ T0 := ne_of_none hg hT0
      have hg3 : upd H2 T0 (.tup [.int (i : Nat), .ref ps[i]]) G = some (.lst (nats ((List.range i).filter (isPart rs)))) := by rw [upd_ne nT]; exact hg
      have ip := part_any ok nb (List.getElem?_eq_getElem hi3)
      have nx : nats ((List.range (i + 1)).filter (isPart rs)) = if isPart rs i = true then nats ((List.range i).filter (isPart rs)) ++ [V.int (i : Int)] else nats ((List.range i).filter (isPart rs)) := by
        rw [List.range_succ, List.filter_append]
        cases c : isPart rs i with
        | true => rw [if_pos rfl]; simp [nats, c]
        | false => rw [if_neg (by decide)]; simp [c]
      have al : (nats ((List.range i).filter (isPart rs))).length < sizeLine := by
        have : (nats ((List.range i).filter (isPart rs))).length ≤ i := by
          unfold nats
          rw [List.length_map]
          exact Nat.le_trans (List.length_filter_le _ _) (by simp)
        exact Nat.lt_of_le_of_lt (Nat.le_trans this (show i ≤ 1000 by omega)) (by decide)
      refine ⟨T0, [.int (i : Nat), .ref ps[i]], rfl, .inl (.inl upd_same), rfl, _, _, rfl, _, _, rfl, rfl, ?_⟩
      have hd3 := s3 _ _ hd1
      have inn : (valV (mergeK [] (tkv (toldI rs))) (.inl ((i : Nat) : Int))).isSome = (toldI rs).any fun j => decide (j = (i : Int)) := by
        rw [tkv_in]
        rfl
      generalize rs[i] = r at row ip
      have sq : Sq K _ ps[i] (rowV r) := .inr (SqT.of row)
      generalize upd H2 T0 (.tup [.int (i : Nat), .ref ps[i]]) = H3 at s3 hg3 hd3 row sq ⊢
      have isY : isPart rs i = true → (upd H3 G (.lst (nats ((List.range i).filter (isPart rs)) ++ [V.int (i : Int)]))) G = some (.lst (nats ((List.range (i + 1)).filter (isPart rs)))) ∧ Same H1 (upd H3 G (.lst (nats ((List.range i).filter (isPart rs)) ++ [V.int (i : Int)]))) := fun z =>
        ⟨by rw [upd_same, nx, if_pos z], fun b o e => by rw [upd_ne (ne_of_none e hG)]; exact s3 b o e⟩
      have isN : isPart rs i = false → H3 G = some (.lst (nats ((List.range (i + 1)).filter (isPart rs)))) ∧ Same H1 H3 := fun z => ⟨by rw [nx, if_neg (by rw [z]; decide)]; exact hg3, s3⟩
      refine ⟨rfl, ?_⟩
      refine ⟨.ref ps[i], rfl, Sq.ix sq rfl ⟨rfl, r.e.isSome, (by cases r.e <;> rfl), ?_⟩⟩
      cases he : r.e.isSome with
      | true => exact iteT' (iteT' ⟨_, rfl, _, hg3, al, isY (by rw [ip, he]; rfl)⟩)
      | false =>
        rw [he, Bool.false_or] at ip
        refine iteF' ⟨.int (i : Nat), rfl, .ref T0', rfl, T0', _, rfl, DGet.k (k := .inl ((i : Nat) : Int)) hd3, _, rfl, ?_⟩
        rw [inn, ← ip]
        cases hq : isPart rs i with
        | true => exact iteT' ⟨_, rfl, _, hg3, al, isY hq⟩
        | false => exact iteF' (isN hq)
    · rintro H2 ⟨hg, s2⟩
      rw [List.length_map, lp] at hg
      exact q G _ (s1.trans s2) hg
end
end K36
end

section
set_option Elab.async false
set_option linter.all false
set_option maxRecDepth 100000
set_option maxHeartbeats 4000000
/-! one row ahead of another; all orders, by the law -/
namespace K36
open PySem L2 KZ
def spLAhead : Sp := fun vs H Q _ => ∃ p q r s, vs = [.ref p, .ref q] ∧ RowAt H p r ∧ RowAt H q s ∧ Q (.bl (ahead r s)) H
section
variable {P : Program} {w : World} {K : PySem.W.Frag} {mg : Str → Option Value} {base : Heap} {fL : Addr} {dL : FuncData}
theorem scLAhead : FnScope ["one", "other"] ["one", "other"] (defScope sLAhead) := ⟨rfl, rfl, rfl, by decide +kernel, rfl, by decide +kernel, by decide +kernel⟩
theorem ok_lahead {f : Addr} {fd : FuncData} (F : Fun K "_law_ahead" "_law_ahead" sLAhead f fd) : FnOk P w K mg base CX0 1 f fd ["one", "other"] spLAhead := by
  refine F.ok scLAhead (fun vs H Q E h => ?_) (fun cdv A' outer s H vs Q E hr h => ?_)
  · obtain ⟨p, q, r, s, rfl, _⟩ := h
    rfl
  · obtain ⟨p, q, r, t, rfl, h1, h2, hQ⟩ := h
    refine ⟨_, (pss_one (ps_ret (pe_and (pe_cmpR op_notN (pe_ix (ix_seqK K) (pv 0) pe_int (fun _ _ => rfl)) pe_non (nomark _)) (pe_one (pe_cmpR op_lt (pe_ix (ix_seqK K) (pv 0) pe_int (fun _ _ => rfl)) (pe_ix (ix_seqK K) (pv 1) pe_int (fun _ _ => rfl)) (nomark _)))))), ?_⟩
    have s1 : Sq K H p (rowV r) := .inr (SqT.of h1)
    have s2 : Sq K H q (rowV t) := .inr (SqT.of h2)
    refine ⟨.ref p, rfl, Sq.ix s1 (show atI (rowV r) 3 = some (oV r.e) from at_nat (i := 3) rfl) ⟨rfl, ?_⟩⟩
    unfold ahead at hQ
    cases he : r.e with
    | none =>
      rw [he] at hQ
      exact ⟨false, rfl, iteF' hQ⟩
    | some e =>
      rw [he] at hQ
      exact ⟨true, rfl, iteT' ⟨.ref p, rfl, Sq.ix s1 (show atI (rowV r) 3 = some (.int e) from by unfold rowV; rw [he]; exact at_nat (i := 3) rfl) ⟨.ref q, rfl, Sq.ix s2 (show atI (rowV t) 2 = some (.int t.b) from at_nat (i := 2) rfl) ⟨_, _, rfl, rfl, hQ⟩⟩⟩⟩
end
end K36
end

section
set_option Elab.async false
set_option linter.all false
set_option maxRecDepth 100000
set_option maxHeartbeats 4000000
/-! all orders, by the law -/
namespace K36
open PySem L2 KZ
abbrev sLOrders : Stmt := top 37
theorem op_notIn_seqK {X : Cx} (K : PySem.W.Frag) (h : X.K = K := by rfl) : OpR X (compareOp .NotIn) (rIn K true) := by subst h; exact op_notIn_seq
def leftOf (mine o : List Nat) : List Nat := mine.filter fun i => !o.any fun j => decide (j = i)
def aheadI (rs : List Row) (i j : Nat) : Bool := match rs[i]?, rs[j]? with
  | some r, some s => ahead r s
  | _, _ => false
def earlyIn (rs : List Row) (left : List Nat) (k : Nat) : List Nat := left.filter fun i => !decide (i = k) && aheadI rs i k
def fitsB (rs : List Row) (k : Nat) (last : Option Int) : Bool := match rs[k]? with
  | some r => !r.g || decide (r.t = last)
  | none => false
def lastB' (rs : List Row) (k : Nat) (last : Option Int) : Option Int := match rs[k]? with
  | some r => if r.g = false then some (k : Int) else last
  | none => last
abbrev OL : Type := List Nat × Option Int
def okNext (rs : List Row) (left : List Nat) (last : Option Int) (k : Nat) : Bool := (earlyIn rs left k).isEmpty && fitsB rs k last
def nextIn (rs : List Row) (left : List Nat) (ol : OL) (l : List Nat) : List OL := (l.filter (okNext rs left ol.2)).map fun k => (ol.1 ++ [k], lastB' rs k ol.2)
def nextOf (rs : List Row) (mine : List Nat) (ol : OL) : List OL := nextIn rs (leftOf mine ol.1) ol (leftOf mine ol.1)
def lineOf (rs : List Row) (mine : List Nat) : Nat → List OL
  | 0 => [([], none)]
  | k + 1 => (lineOf rs mine k).flatMap (nextOf rs mine)
def ordersOf (rs : List Row) : List (List Nat) := (lineOf rs (partsOf rs) (partsOf rs).length).map (·.1)
theorem next_len (rs : List Row) (mine : List Nat) (ol : OL) : (nextOf rs mine ol).length ≤ mine.length := by
  unfold nextOf nextIn leftOf
  rw [List.length_map]
  exact Nat.le_trans (List.length_filter_le _ _) (List.length_filter_le _ _)
theorem line_len (rs : List Row) (mine : List Nat) : ∀ k, (lineOf rs mine k).length ≤ mine.length ^ k
  | 0 => Nat.le_refl _
  | k + 1 => by
    have ih := line_len rs mine k
    have le : ∀ l : List OL, (l.flatMap (nextOf rs mine)).length ≤ mine.length * l.length := fun l => by
      induction l with
      | nil => exact Nat.le_refl _
      | cons x l ih2 =>
        rw [List.flatMap_cons, List.length_append, List.length_cons, Nat.mul_succ]
        have := next_len rs mine x
        omega
    show ((lineOf rs mine k).flatMap (nextOf rs mine)).length ≤ _
    refine Nat.le_trans (le _) ?_
    rw [Nat.pow_succ, Nat.mul_comm]
    exact Nat.mul_le_mul_right _ ih
theorem line_ord (rs : List Row) (mine : List Nat) : ∀ k ol, ol ∈ lineOf rs mine k → ol.1.length = k
  | 0, ol, m => by
    have : ol = ([], none) := List.mem_singleton.mp m
    rw [this]
    rfl
  | k + 1, ol, m => by
    obtain ⟨x, mx, mo⟩ := List.mem_flatMap.mp (show ol ∈ (lineOf rs mine k).flatMap (nextOf rs mine) from m)
    unfold nextOf nextIn at mo
    obtain ⟨j, _, rfl⟩ := List.mem_map.mp mo
    have := line_ord rs mine k x mx
    show (x.1 ++ [j]).length = k + 1
    rw [List.length_append, this]
    rfl
def OLAt (H : Hp) (t : Addr) (ol : OL) : Prop := ∃ q, H t = some (.tup [.ref q, oV ol.2]) ∧ TupD H q (nats ol.1)
def LineAt (H : Hp) (ts : List Addr) (ls : List OL) : Prop := Paired (OLAt H) ts ls
theorem LineAt.mono {H H' : Hp} {ts : List Addr} {ls : List OL} (h : LineAt H ts ls) (k : ∀ p x, (∀ l, x ≠ HO.lst l) → H p = some x → H' p = some x) : LineAt H' ts ls := Paired.mapP h fun _ _ ⟨q, e1, e2⟩ => ⟨q, k _ _ (fun _ z => nomatch z) e1, e2.mono fun ob e => k _ _ (fun _ z => nomatch z) e⟩
section
variable {P : Program} {w : World} {K : PySem.W.Frag} {mg : Str → Option Value} {base : Heap} {fP fA : Addr} {dP dA : FuncData}
theorem left_lc {a M Lc D q : Addr} {x3 x7 x8 x9 x10 : Option V} {last : V} {mine o : List Nat} {H : Hp} {Q : VK} (hm : H M = some (.lst (nats mine))) (ho : TupD H q (nats o)) (lm : mine.length ≤ 1000)
    (go : ∀ L, H L = none → Q (.ref L) (upd H L (.lst (nats (leftOf mine o))))) :
    tLc (iList K (tVar 1)) (gName 8) (tTest (tOp (rIn K true) (tVar 8) (tVar 5))) (tVar 8) [8] [some (.ref a), some (.ref M), some (.ref Lc), x3, some (.ref D), some (.ref q), some last, x7, x8, x9, x10] H Q := by
  refine ⟨.ref M, rfl, M, rfl, ⟨_, SqL.of hm⟩, fun L hL => ?_⟩
  refine lc_it (walk_list (K := K) (a := M) (xs := nats mine)) (fun i H' => H' = upd H L (.lst (nats (leftOf (mine.take i) o)))) rfl (fun i H' _ e => by rw [e]; exact SqL.of (same_new hL _ _ hm)) ?_ ?_
  · rintro i x H2 H3 hi rfl ⟨rfl, hx⟩
    have hi2 : i < mine.length := by unfold nats at hi; rw [List.length_map] at hi; exact hi
    have ex : x = .int (mine[i] : Nat) := by
      unfold nats at hx
      rw [List.getElem?_map, List.getElem?_eq_getElem hi2] at hx
      exact (Option.some.inj hx).symm
    subst ex
    have tk : leftOf (mine.take (i + 1)) o = leftOf (mine.take i) o ++ (if (!o.any fun j => decide (j = mine[i])) = true then [mine[i]] else []) := by
      unfold leftOf
      rw [List.take_add_one, List.getElem?_eq_getElem hi2, List.filter_append]
      congr 1
      show List.filter _ [mine[i]] = _
      rw [List.filter_cons]
      rfl
    rw [tk]
    have ln : (nats (leftOf (mine.take i) o)).length < sizeLine := by
      unfold nats leftOf
      rw [List.length_map]
      refine Nat.lt_of_le_of_lt (Nat.le_trans (List.length_filter_le _ _) (show _ ≤ 1000 from ?_)) (by decide)
      rw [List.length_take]
      omega
    have ho2 := ho.mono fun ob e => same_new (o := .lst (nats (leftOf (mine.take i) o))) hL _ _ e
    generalize mine[i] = m
    generalize leftOf (mine.take i) o = us at ln ho2 ⊢
    have inn : inV (.int (m : Nat)) (nats o) = o.any fun j => decide (j = m) := by
      rw [in_parts]
      congr 1
      funext j
      by_cases e : j = m
      · rw [decide_eq_true e, decide_eq_true (by rw [e])]
      · rw [decide_eq_false e, decide_eq_false (show ¬ ((j : Nat) : Int) = ((m : Nat) : Int) from fun z => e (Int.ofNat.inj z))]
    refine ⟨rfl, .int m, rfl, .ref q, rfl, q, _, rfl, .inr ho2.sq, rfl, nats_flat _, _, rfl, ?_⟩
    rw [if_pos rfl, inn]
    cases c : (o.any fun j => decide (j = m)) with
    | true =>
      refine iteF' ?_
      show _ = _
      rw [if_neg (by decide), List.append_nil]
    | false =>
      refine iteT' ⟨_, rfl, _, upd_same, ln, ?_⟩
      rw [upd_upd, if_pos (show (!false) = true from rfl)]
      unfold nats
      rw [List.map_append]
      rfl
  · rintro H2 rfl
    have e0 : mine.take (nats mine).length = mine := by
      unfold nats
      rw [List.length_map, List.take_of_length_le (Nat.le_refl _)]
    rw [e0]
    exact go L hL
theorem RowsAt.at {H : Hp} {a : Addr} {rs : List Row} {i : Nat} {r : Row} (h : RowsAt H a rs) (e : rs[i]? = some r) : ∃ p xs, SqL K H a xs ∧ atI xs (i : Int) = some (.ref p) ∧ RowAt H p r := by
  obtain ⟨ps, ha, lp, hp⟩ := h
  have hi : i < ps.length := by rw [lp]; exact (List.getElem?_eq_some_iff.mp e).1
  have ep : ps[i]? = some ps[i] := List.getElem?_eq_getElem hi
  exact ⟨ps[i], _, SqL.of ha, at_nat (by rw [List.getElem?_map, ep]; rfl), hp i ps[i] r ep e⟩
theorem early_lc {a M Lc D q L : Addr} {x3 x9 x10 : Option V} {last : V} {rs : List Row} {left : List Nat} {k : Nat} {r : Row} {H : Hp} {Q : VK} (hr : RowsAt H a rs) (hl : H L = some (.lst (nats left))) (ll : left.length ≤ 1000) (in_ : ∀ i ∈ left, i < rs.length) (er : rs[k]? = some r)
    (go : ∀ G, H G = none → Q (.ref G) (upd H G (.lst (nats (earlyIn rs left k))))) :
    tLc (iList K (tVar 7)) (gName 10) (tAnd (tTest (tOp rNe (tVar 10) (tVar 8))) (tB (tCall spLAhead [] E0 (tCons (tOp (rIx K) (tVar 0) (tVar 10)) (tCons (tOp (rIx K) (tVar 0) (tVar 8)) tNil))))) (tVar 10) [10]
      [some (.ref a), some (.ref M), some (.ref Lc), x3, some (.ref D), some (.ref q), some last, some (.ref L), some (.int k), x9, x10] H Q := by
  refine ⟨.ref L, rfl, L, rfl, ⟨_, SqL.of hl⟩, fun G hG => ?_⟩
  refine lc_it (walk_list (K := K) (a := L) (xs := nats left)) (fun i H' => H' = upd H G (.lst (nats (earlyIn rs (left.take i) k)))) rfl (fun i H' _ e => by rw [e]; exact SqL.of (same_new hG _ _ hl)) ?_ ?_
  · rintro i x H2 H3 hi rfl ⟨rfl, hx⟩
    have hi2 : i < left.length := by unfold nats at hi; rw [List.length_map] at hi; exact hi
    have ex : x = .int (left[i] : Nat) := by
      unfold nats at hx
      rw [List.getElem?_map, List.getElem?_eq_getElem hi2] at hx
      exact (Option.some.inj hx).symm
    subst ex
    have tk : earlyIn rs (left.take (i + 1)) k = earlyIn rs (left.take i) k ++ (if (!decide (left[i] = k) && aheadI rs left[i] k) = true then [left[i]] else []) := by
      unfold earlyIn
      rw [List.take_add_one, List.getElem?_eq_getElem hi2, List.filter_append]
      congr 1
      show List.filter _ [left[i]] = _
      rw [List.filter_cons]
      rfl
    rw [tk]
    have ln : (nats (earlyIn rs (left.take i) k)).length < sizeLine := by
      unfold nats earlyIn
      rw [List.length_map]
      refine Nat.lt_of_le_of_lt (Nat.le_trans (List.length_filter_le _ _) (show _ ≤ 1000 from ?_)) (by decide)
      rw [List.length_take]
      omega
    have hlt := in_ left[i] (List.getElem_mem hi2)
    have hr2 : RowsAt (upd H G (.lst (nats (earlyIn rs (left.take i) k)))) a rs := hr.mono (same_new hG)
    generalize left[i] = m at hlt
    generalize earlyIn rs (left.take i) k = us at ln hr2 ⊢
    have em : rs[m]? = some rs[m] := List.getElem?_eq_getElem hlt
    have ai : aheadI rs m k = ahead rs[m] r := by unfold aheadI; rw [em, er]
    refine ⟨rfl, .int m, rfl, .int k, rfl, rfl, !decide (m = k), ?_, ?_⟩
    · congr 2
      by_cases e : m = k
      · rw [decide_eq_true e, decide_eq_true (by rw [e])]
      · rw [decide_eq_false e, decide_eq_false (show ¬ V.int (m : Int) = V.int (k : Int) from fun z => e (Int.ofNat.inj (V.int.inj z)))]
    cases c : decide (m = k) with
    | true =>
      refine iteF' (iteF' ?_)
      show _ = _
      rw [if_neg (fun z => nomatch z), List.append_nil]
    | false =>
      obtain ⟨p1, xs1, sq1, at1, h1⟩ := hr2.at (K := K) em
      obtain ⟨p2, xs2, sq2, at2, h2⟩ := hr2.at (K := K) er
      refine iteT' ⟨.ref a, rfl, .int m, rfl, Sq.ix (.inl sq1) at1 ⟨.ref a, rfl, .int k, rfl, Sq.ix (.inl sq2) at2 ⟨p1, p2, rs[m], r, rfl, h1, h2, aheadI rs m k, by rw [ai], ?_⟩⟩⟩
      cases c2 : aheadI rs m k with
      | false =>
        refine iteF' ?_
        show _ = _
        rw [if_neg (fun z => nomatch z), List.append_nil]
      | true =>
        refine iteT' ⟨_, rfl, _, upd_same, ln, ?_⟩
        rw [upd_upd, if_pos (show (!false && true) = true from rfl)]
        unfold nats
        rw [List.map_append]
        rfl
  · rintro H2 rfl
    have e0 : left.take (nats left).length = left := by
      unfold nats
      rw [List.length_map, List.take_of_length_le (Nat.le_refl _)]
    rw [e0]
    exact go G hG
end
end K36
end

section
set_option Elab.async false
set_option linter.all false
set_option maxRecDepth 100000
set_option maxHeartbeats 4000000
/-! one further place of an order -/
namespace K36
open PySem L2 KZ
section
variable {P : Program} {w : World} {K : PySem.W.Frag} {mg : Str → Option Value} {base : Heap}
theorem nats_ints (l : List Nat) : nats l = (l.map fun (i : Nat) => (i : Int)).map V.int := by
  unfold nats
  rw [List.map_map]
  rfl
theorem fits_eq {rs : List Row} {k : Nat} {r : Row} {last : Option Int} (er : rs[k]? = some r) : fitsB rs k last = (!r.g || decide (r.t = last)) := by unfold fitsB; rw [er]
theorem last_eq {rs : List Row} {k : Nat} {r : Row} {last : Option Int} (er : rs[k]? = some r) : lastB' rs k last = if r.g = false then some (k : Int) else last := by unfold lastB'; rw [er]
theorem fit_test {a M Lc D q L G : Addr} {x3 x10 : Option V} {last : Option Int} {rs : List Row} {early : List Nat} {k : Nat} {r : Row} {H : Hp} {Q : Bool → Hp → Prop} (hr : RowsAt H a rs) (er : rs[k]? = some r) (hg : H G = some (.lst (nats early)))
    (go : ∀ H', Same H H' → Q (early.isEmpty && fitsB rs k last) H') :
    tAnd (tTest (tOp (rEqD K) (tVar 9) (tLst tNil))) (tOr (tTest (tOp rEq (tOp (rIx K) (tOp (rIx K) (tVar 0) (tVar 8)) (tC (.int 1))) (tC (.str "put")))) (tTest (tOp rEq (tOp (rIx K) (tOp (rIx K) (tVar 0) (tVar 8)) (tC (.int 4))) (tVar 6))))
      [some (.ref a), some (.ref M), some (.ref Lc), x3, some (.ref D), some (.ref q), some (oV last), some (.ref L), some (.int k), some (.ref G), x10] H Q := by
  refine ⟨.ref G, rfl, Nat.zero_le _, fun l hl => ⟨_, _, Dp.lst (SqL.of (same_new hl _ _ (nats_ints early ▸ hg))) (dp_ints _), Dp.lst (SqL.of upd_same) .nil, shaped_ints _, by decide +kernel, _, rfl, ?_⟩⟩
  have s1 : Same H (upd H l (.lst [])) := same_new hl
  have hr1 := hr.mono s1
  have go := go _ s1
  rw [eqv_nil, List.isEmpty_map]
  generalize upd H l (.lst []) = H1 at s1 hr1 go ⊢
  cases he : early.isEmpty with
  | false =>
    rw [he] at go
    exact iteF' go
  | true =>
    rw [he, Bool.true_and, fits_eq er] at go
    obtain ⟨p, xs, sq, at1, hp⟩ := hr1.at (K := K) er
    have sqp : Sq K H1 p (rowV r) := .inr (SqT.of hp)
    refine iteT' ⟨.ref a, rfl, .int k, rfl, Sq.ix (.inl sq) at1 (Sq.ix sqp (show atI (rowV r) 1 = some (.str (wd r.g)) from at_nat (i := 1) rfl) ⟨rfl, !r.g, (by cases r.g <;> decide +kernel), ?_⟩)⟩
    cases hgv : r.g with
    | false =>
      rw [hgv] at go
      exact iteT' go
    | true =>
      rw [hgv] at go
      refine iteF' ⟨.ref a, rfl, .int k, rfl, Sq.ix (.inl sq) at1 (Sq.ix sqp (show atI (rowV r) 4 = some (oV r.t) from at_nat (i := 4) rfl) ⟨oV last, rfl, (by cases r.t <;> cases last <;> rfl), decide (r.t = last), by rw [← eq_oV], go⟩)⟩
theorem app_go {a M Lc D q L G : Addr} {x3 x10 : Option V} {last : Option Int} {rs : List Row} {o : List Nat} {k : Nat} {r : Row} {H : Hp} {Q : VK} {xs : List V} (hr : RowsAt H a rs) (er : rs[k]? = some r) (ho : TupD H q (nats o)) (hd : H D = some (.lst xs)) (ld : xs.length < sizeLine) (lo : o.length ≤ 1000)
    (go : ∀ t H', Same H H' → OLAt H' t (o ++ [k], lastB' rs k last) → H' D = some (.lst xs) → Q .non (upd H' D (.lst (xs ++ [.ref t])))) :
    tBM K "list" rAppend (tVar 4) (tCons (tTup (tCons (tOp (rCatD K) (tVar 5) (tTupD (tCons (tVar 8) tNil))) (tCons (tIf (tTest (tOp rEq (tOp (rIx K) (tOp (rIx K) (tVar 0) (tVar 8)) (tC (.int 1))) (tC (.str "put")))) (tVar 8) (tVar 6)) tNil))) tNil)
      [some (.ref a), some (.ref M), some (.ref Lc), x3, some (.ref D), some (.ref q), some (oV last), some (.ref L), some (.int k), some (.ref G), x10] H Q := by
  refine ⟨.ref D, rfl, .inl ⟨rfl, _, SqL.of hd⟩, .ref q, rfl, .int k, rfl, (by show 1 ≤ sizeLine; decide), fun u ob0 hu hd0 => ?_⟩
  have s1 : Same H (upd H u (.frz ob0 (.tup [.int k]))) := same_new hu
  have hu1 : TupD (upd H u (.frz ob0 (.tup [.int k]))) u [.int k] := ⟨ob0, hd0, upd_same⟩
  generalize upd H u (.frz ob0 (.tup [.int k])) = H1 at s1 hu1 ⊢
  have fin : ∀ z H2, Same H H2 → TupD H2 z (nats (o ++ [k])) → tCons (tIf (tTest (tOp rEq (tOp (rIx K) (tOp (rIx K) (tVar 0) (tVar 8)) (tC (.int 1))) (tC (.str "put")))) (tVar 8) (tVar 6)) tNil
      [some (.ref a), some (.ref M), some (.ref Lc), x3, some (.ref D), some (.ref q), some (oV last), some (.ref L), some (.int k), some (.ref G), x10] H2 fun xs2 H3 => (V.ref z :: xs2).length ≤ sizeLine ∧ ∀ p, H3 p = none → rAppend (.ref D) [.ref p] (upd H3 p (.tup (V.ref z :: xs2))) Q := fun z H2 s2 hz => by
    obtain ⟨p, xs1, sq, at1, hp⟩ := (hr.mono s2).at (K := K) er
    have sqp : Sq K H2 p (rowV r) := .inr (SqT.of hp)
    have end_ : ∀ v, v = oV (lastB' rs k last) → [V.ref z, v].length ≤ sizeLine ∧ ∀ p, H2 p = none → rAppend (.ref D) [.ref p] (upd H2 p (.tup [V.ref z, v])) Q := fun v ev => by
      subst ev
      refine ⟨by show 2 ≤ sizeLine; decide, fun p hp2 => ?_⟩
      have s3 := s2.trans (same_new (o := .tup [V.ref z, oV (lastB' rs k last)]) hp2)
      exact ⟨D, xs, .ref p, rfl, rfl, s3 _ _ hd, ld, go p _ s3 ⟨z, upd_same, hz.mono fun ob e => by rw [upd_ne (ne_of_none e hp2)]; exact e⟩ (s3 _ _ hd)⟩
    refine ⟨.ref a, rfl, .int k, rfl, Sq.ix (.inl sq) at1 (Sq.ix sqp (show atI (rowV r) 1 = some (.str (wd r.g)) from at_nat (i := 1) rfl) ⟨rfl, !r.g, (by cases r.g <;> decide +kernel), ?_⟩)⟩
    cases hgv : r.g with
    | false => exact iteT' ⟨.int k, rfl, end_ _ (by rw [last_eq er, if_pos hgv]; rfl)⟩
    | true => exact iteF' ⟨oV last, rfl, end_ _ (by rw [last_eq er, if_neg (by rw [hgv]; exact fun z => nomatch z)])⟩
  refine ⟨q, u, nats o, [.int k], rfl, rfl, (ho.mono fun _ e => s1 _ _ e).sq, hu1.sq, ?_, fun e => ?_, fun _ e => (by cases e), fun _ _ z ob hz hd => ?_⟩
  · unfold nats
    rw [List.length_map]
    exact Nat.le_trans (Nat.add_le_add_right lo _) (show 1000 + 1 ≤ sizeLine by decide)
  · refine fin u H1 s1 ?_
    have : o = [] := by
      cases o with
      | nil => rfl
      | cons _ _ => cases e
    rw [this]
    exact hu1
  · refine fin z _ (s1.trans (same_new hz)) ?_
    refine ⟨ob, hd, ?_⟩
    rw [upd_same]
    unfold nats
    rw [List.map_append]
    rfl
end
end K36
end

section
set_option Elab.async false
set_option linter.all false
set_option maxRecDepth 100000
set_option maxHeartbeats 4000000
/-! all orders, by the law: the walk -/
namespace K36
open PySem L2 KZ
def OrdersAt (H : Hp) (L : Addr) (os : List (List Nat)) : Prop := ∃ ts : List Addr, H L = some (.lst (ts.map V.ref)) ∧ Paired (fun t o => TupD H t (nats o)) ts os
def spLOrders : Sp := fun vs H Q _ => ∃ a rs, vs = [.ref a] ∧ RowsAt H a rs ∧ rs.length ≤ 7 ∧ (∀ r ∈ rs, r.Ok) ∧ firstBad rs = none ∧ ∀ L H', Same H H' → OrdersAt H' L (ordersOf rs) → Q (.ref L) H'
theorem parts_le (rs : List Row) : (partsOf rs).length ≤ rs.length := by
  unfold partsOf
  exact Nat.le_trans (List.length_filter_le _ _) (by simp)
theorem parts_lt {rs : List Row} {i : Nat} (h : i ∈ partsOf rs) : i < rs.length := by
  unfold partsOf at h
  exact List.mem_range.mp (List.mem_filter.mp h).1
theorem left_sub {mine o : List Nat} {i : Nat} (h : i ∈ leftOf mine o) : i ∈ mine := (List.mem_filter.mp h).1
theorem asg_go {t : TE} {g : TG} {D : Ends} {σ : L2.St} {H : Hp} (h : t σ H fun v H1 => g v σ H1 D.nx) : tAsg t g D σ H := h
theorem ifs_go {c : TT} {t u : TS} {D : Ends} {σ : L2.St} {H : Hp} (h : c σ H fun b H1 => if b = true then t D σ H1 else u D σ H1) : tIfS c t u D σ H := h
theorem drop_go {t : TE} {D : Ends} {σ : L2.St} {H : Hp} (h : t σ H fun _ H1 => D.nx σ H1) : tDrop t D σ H := h
theorem paired_at {α β : Type} {p : α → β → Prop} : ∀ {xs : List α} {ys : List β} (_ : Paired p xs ys) {i : Nat} (h1 : i < xs.length) (h2 : i < ys.length), p xs[i] ys[i]
  | _ :: _, _ :: _, .cons a _, 0, _, _ => a
  | _ :: _, _ :: _, .cons _ b, i + 1, h1, h2 => paired_at b (i := i) (Nat.lt_of_succ_lt_succ h1) (Nat.lt_of_succ_lt_succ h2)
section
variable {P : Program} {w : World} {K : PySem.W.Frag} {mg : Str → Option Value} {base : Heap}
theorem scLOrders : FnScope ["rows", "mine", "line", "turn", "later", "order", "last", "left", "at", "early", "one"] ["rows"] (defScope sLOrders) := ⟨rfl, rfl, rfl, by decide +kernel, rfl, by decide +kernel, by decide +kernel⟩
theorem ok_lorders {f : Addr} {fd : FuncData} (F : Fun K "_law_orders" "_law_orders" sLOrders f fd) (T : B1 mg) (parts : Cal P w K mg base "_law_parts" 1 ["rows"] spLParts) (ah : Cal P w K mg base "_law_ahead" 1 ["one", "other"] spLAhead) : FnOk P w K mg base CX0 2 f fd ["rows"] spLOrders := by
  obtain ⟨fP, dP, gP, GP, kP, bP⟩ := parts.ex
  obtain ⟨fA, dA, gA, GA, kA, bA⟩ := ah.ex
  refine F.ok scLOrders (fun vs H Q E h => ?_) (fun cdv A' outer s H vs Q E hr h => ?_)
  · obtain ⟨a, rs, rfl, _⟩ := h
    rfl
  · obtain ⟨a, rs, rfl, hh, hl, ok, nb, q⟩ := h
    have hr1 : Room 1 _ := hr
    refine ⟨_, (pss_cons (ps_par (i := 1) (j := 2) (by rfl) scLOrders.nd rfl rfl (by decide) rfl rfl (pa_cons (pe_call GP hr1 (by rfl) gP kP bP .nil pass0 (pa_cons (pv 0) pa_nil)) (pa_cons (pe_lst (pa_cons (pe_tup (pa_cons (pe_tupD pa_nil) (pa_cons pe_non pa_nil))) pa_nil)) pa_nil)) (by rfl))
(pss_cons (ps_for PassesOwn.never rfl (pi_range1 (by rfl) T.range (pa_cons (pe_callB call_len (by rfl) T.len PySem.boot_len (pa_cons (pv 1) pa_nil)) pa_nil)) (pg_name (i := 3) scLOrders.nd rfl (Or.inl rfl))
(pss_cons (ps_set (i := 4) scLOrders.nd rfl (Or.inl rfl) (pe_lst pa_nil))
(pss_cons (ps_for PassesOwn.never rfl (pi_list (pv 2)) (pg_tup rfl (pgs_cons (pg_name (i := 5) scLOrders.nd rfl (Or.inr rfl)) (pgs_cons (pg_name (i := 6) scLOrders.nd rfl (Or.inl rfl)) pgs_nil)))
(pss_cons (ps_setLc (i := 7) (own := [("at", 8)]) (g := gName 8) (by rfl) scLOrders.nd rfl rfl (sw_true rfl rfl rfl (by decide +kernel)) (pi_list (pv 1)) (blkOk_by (own := [("at", 8)]) (N := ["rows", "mine", "line", "turn", "later", "order", "last", "left", "at", "early", "one"]) (sc := defScope sLOrders) (by decide +kernel)) (fun _ _ _ _ _ => pg_name (i := 8) scLOrders.nd rfl (Or.inl rfl)) (fun _ _ _ _ _ => pts_one (pt_cmpR (op_notIn_seqK K) (pv 8) (pv 5) (by rfl))) (fun _ _ _ _ _ => pv 8))
(pss_one (ps_for PassesOwn.never rfl (pi_list (pv 7)) (pg_name (i := 8) scLOrders.nd rfl (Or.inr rfl))
(pss_cons (ps_setLc (i := 9) (own := [("one", 10)]) (g := gName 10) (by rfl) scLOrders.nd rfl rfl (sw_true rfl rfl rfl (by decide +kernel)) (pi_list (pv 7)) (blkOk_by (own := [("one", 10)]) (N := ["rows", "mine", "line", "turn", "later", "order", "last", "left", "at", "early", "one"]) (sc := defScope sLOrders) (by decide +kernel)) (fun _ _ _ _ _ => pg_name (i := 10) scLOrders.nd rfl (Or.inl rfl)) (fun _ _ _ _ _ => pts_one (PW.pt (pw_and (pt_cmpR op_ne (pv 10) (pv 8) (nomark _)) (pw_and1 (pt_val (pe_call GA hr1 (by rfl) gA kA bA .nil pass0 (pa_cons (pe_ix (ix_seqK K) (pv 0) (pv 10) (fun _ _ => rfl)) (pa_cons (pe_ix (ix_seqK K) (pv 0) (pv 8) (fun _ _ => rfl)) pa_nil)))))))) (fun _ _ _ _ _ => pv 10))
(pss_one (ps_if (PW.pt (pw_and (pt_cmpR (op_eqD hr.units) (pv 9) (pe_lst pa_nil) (nomark _)) (pw_and1 (PW.pt (pw_or (pt_cmpR op_eq (pe_ix (ix_seqK K) (pe_ix (ix_seqK K) (pv 0) (pv 8) (fun _ _ => rfl)) pe_int (fun _ _ => rfl)) pe_str (nomark _)) (pw_or1 (pt_cmpR op_eq (pe_ix (ix_seqK K) (pe_ix (ix_seqK K) (pv 0) (pv 8) (fun _ _ => rfl)) pe_int (fun _ _ => rfl)) (pv 6) (nomark _))))))))
(pss_one (ps_expr (pe_bm PySem.F.plainAttrs_list PySem.F.slot_list_append PySem.F.type_list_append mt_append (pv 4) (pa_cons (pe_tup (pa_cons (pe_op op_catD (pv 5) (pe_tupD (pa_cons (pv 8) pa_nil))) (pa_cons (pe_ifExp (pt_cmpR op_eq (pe_ix (ix_seqK K) (pe_ix (ix_seqK K) (pv 0) (pv 8) (fun _ _ => rfl)) pe_int (fun _ _ => rfl)) pe_str (nomark _)) (pv 8) (pv 6)) pa_nil))) pa_nil))))
pss_nil)))))))
(pss_one (ps_set (i := 2) scLOrders.nd rfl (Or.inl rfl) (pe_callTy call_list_of (by rfl) T.list (by decide +kernel) (pa_cons (pv 4) pa_nil)))))))
(pss_one (ps_ret (pe_lc (own := [("order", 5), ("last", 6)]) (tt := tYes) (by rfl) scLOrders.nd (pi_list (pv 2)) (blkOk_by (own := [("order", 5), ("last", 6)]) (N := ["rows", "mine", "line", "turn", "later", "order", "last", "left", "at", "early", "one"]) (sc := defScope sLOrders) (by decide +kernel)) (fun _ _ _ _ _ => pg_tupK (n := 2) K rfl ((pgs_cons (pg_name (i := 5) scLOrders.nd rfl (Or.inl rfl)) (pgs_cons (pg_name (i := 6) scLOrders.nd rfl (Or.inl rfl)) pgs_nil)))) (fun _ _ _ _ _ => pts_nil) (fun _ _ _ _ _ => pv 5)))))), ?_⟩
    refine ⟨.ref a, rfl, a, rs, rfl, hh, by omega, ok, nb, fun M H1 s1 hM => ⟨Nat.zero_le _, fun q0 ob0 hq0 hd0 => ⟨(by show 2 ≤ sizeLine; decide), fun t0 ht0 => ⟨(by show 1 ≤ sizeLine; decide), fun L0 hL0 => ?_⟩⟩⟩⟩
    have ml : (partsOf rs).length ≤ 7 := Nat.le_trans (parts_le rs) hl
    have s2 : Same H1 (upd (upd (upd H1 q0 (.frz ob0 (.tup []))) t0 (.tup [.ref q0, .non])) L0 (.lst [.ref t0])) := (same_new hq0).trans ((same_new ht0).trans (same_new hL0))
    have l0 : LineAt (upd (upd (upd H1 q0 (.frz ob0 (.tup []))) t0 (.tup [.ref q0, .non])) L0 (.lst [.ref t0])) [t0] (lineOf rs (partsOf rs) 0) :=
      .cons ⟨q0, by rw [upd_ne (ne_of_none (upd_same) hL0)]; exact upd_same, ob0, hd0, same_new hL0 _ _ (same_new ht0 _ _ upd_same)⟩ .nil
    have hl0 : upd (upd (upd H1 q0 (.frz ob0 (.tup []))) t0 (.tup [.ref q0, .non])) L0 (.lst [.ref t0]) L0 = some (.lst ([t0].map V.ref)) := upd_same
    generalize upd (upd (upd H1 q0 (.frz ob0 (.tup []))) t0 (.tup [.ref q0, .non])) L0 (.lst [.ref t0]) = H2 at s2 l0 hl0 ⊢
    refine ⟨_, _, rfl, ?_⟩
    have hM2 := s2 _ _ hM
    have hh2 := hh.mono (s1.trans s2)
    have nM : (nats (partsOf rs)).length = (partsOf rs).length := by unfold nats; rw [List.length_map]
    have s12 := s1.trans s2
    have mlt : ∀ i ∈ partsOf rs, i < rs.length := fun i m => parts_lt m
    have fin := q
    unfold ordersOf at fin
    generalize partsOf rs = mine at ml hM2 nM l0 mlt fin
    refine ⟨.ref M, rfl, .ref M, (nats mine).length, rfl, .inl ⟨_, SqL.of hM2, rfl⟩, ((nats mine).length : Nat), rfl, by omega, by omega, for_range (n := (nats mine).length) (fun i σ H' => ∃ Lc ts x3 x4 x5 x6 x7 x8 x9 x10, σ = [some (.ref a), some (.ref M), some (.ref Lc), x3, x4, x5, x6, x7, x8, x9, x10] ∧ H' Lc = some (.lst (ts.map V.ref)) ∧ LineAt H' ts (lineOf rs mine i) ∧ Same H2 H')
      ⟨L0, [t0], _, _, _, _, _, _, _, _, rfl, hl0, l0, Same.refl _⟩ ?_ ?_⟩
    · rintro i σ H3 hi ⟨Lc, ts, x3, x4, x5, x6, x7, x8, x9, x10, rfl, hLc, la, s3⟩
      refine ⟨Nat.zero_le _, fun D hD => ?_⟩
      have hi7 : i < 7 := by omega
      have llen : (lineOf rs mine i).length ≤ 7 ^ 7 := by
        refine Nat.le_trans (line_len rs mine i) ?_
        exact Nat.le_trans (Nat.pow_le_pow_left ml i) (Nat.pow_le_pow_right (by decide) (by omega))
      have olen := line_ord rs mine i
      have stepE : lineOf rs mine (i + 1) = (lineOf rs mine i).flatMap (nextOf rs mine) := rfl
      have llen2 : (lineOf rs mine (i + 1)).length ≤ 7 ^ 7 := by
        refine Nat.le_trans (line_len rs mine (i + 1)) ?_
        exact Nat.le_trans (Nat.pow_le_pow_left ml (i + 1)) (Nat.pow_le_pow_right (by decide) (by omega))
      rw [stepE] at llen2 ⊢
      generalize lineOf rs mine i = ls at la llen olen llen2 ⊢
      have tl : ts.length = ls.length := Paired.length la
      have hLcD := same_new (o := .lst []) hD _ _ hLc
      refine ⟨.ref Lc, rfl, Lc, rfl, ⟨_, SqL.of hLcD⟩, ?_⟩
      refine for_it (walk_list (K := K) (a := Lc) (xs := ts.map V.ref)) (fun j σ H' => ∃ us x5 x6 x7 x8 x9 x10, σ = [some (.ref a), some (.ref M), some (.ref Lc), some (.int (0 + (i : Int))), some (.ref D), x5, x6, x7, x8, x9, x10] ∧ H' D = some (.lst (us.map V.ref)) ∧ LineAt H' us ((ls.take j).flatMap (nextOf rs mine)) ∧ Same H3 H')
        ⟨[], _, _, _, _, _, _, rfl, upd_same, .nil, same_new hD⟩ (fun j σ H' _ ⟨_, _, _, _, _, _, _, _, _, _, s'⟩ => SqL.of (s' _ _ hLc)) ?_ ?_
      · rintro j x σ H4 H5 hj ⟨us, x5, x6, x7, x8, x9, x10, rfl, hD4, lu, s4⟩ ⟨rfl, hx⟩
        have hj2 : j < ts.length := by rw [List.length_map] at hj; exact hj
        have hj3 : j < ls.length := by rw [← tl]; exact hj2
        have ex : x = .ref ts[j] := by
          rw [List.getElem?_map, List.getElem?_eq_getElem hj2] at hx
          exact (Option.some.inj hx).symm
        subst ex
        obtain ⟨qo, e1, e2⟩ := paired_at la hj2 hj3
        have tk : (ls.take (j + 1)).flatMap (nextOf rs mine) = (ls.take j).flatMap (nextOf rs mine) ++ nextOf rs mine ls[j] := by
          rw [List.take_add_one, List.getElem?_eq_getElem hj3, List.flatMap_append]
          congr 1
          show [ls[j]].flatMap (nextOf rs mine) = _
          rw [List.flatMap_cons, List.flatMap_nil, List.append_nil]
        have bnd : ((ls.take j).flatMap (nextOf rs mine)).length + (nextOf rs mine ls[j]).length ≤ 7 ^ 7 := by
          rw [← List.length_append, ← tk]
          refine Nat.le_trans ?_ llen2
          have e : ls = ls.take (j + 1) ++ ls.drop (j + 1) := (List.take_append_drop _ _).symm
          conv => rhs; rw [e]
          rw [List.flatMap_append, List.length_append]
          omega
        have ol := olen ls[j] (List.getElem_mem hj3)
        rw [tk]
        generalize (ls.take j).flatMap (nextOf rs mine) = done at lu bnd ⊢
        generalize ls[j] = xl at e1 e2 bnd ol ⊢
        obtain ⟨o, last⟩ := xl
        have s14 := s12.trans (s3.trans s4)
        have e20 := e2
        replace e1 := s4 _ _ e1
        replace e2 := e2.mono fun _ e => s4 _ _ e
        have hM4 := (s3.trans s4) _ _ hM2
        refine ⟨ts[j], _, rfl, SqT.of e1, rfl, _, _, rfl, _, _, rfl, rfl, ?_⟩
        refine asg_go (left_lc (last := oV last) hM4 e2 (by omega) fun L hL => ?_)
        have lsub : ∀ k ∈ leftOf mine o, k < rs.length := fun k m => mlt k (left_sub m)
        have llen3 : (leftOf mine o).length ≤ 7 := by
          unfold leftOf
          exact Nat.le_trans (List.length_filter_le _ _) ml
        have nxt : nextOf rs mine (o, last) = nextIn rs (leftOf mine o) (o, last) (leftOf mine o) := rfl
        rw [nxt] at bnd ⊢
        have s5 := same_new (o := .lst (nats (leftOf mine o))) hL
        have hL5 : upd H5 L (.lst (nats (leftOf mine o))) L = some (.lst (nats (leftOf mine o))) := upd_same
        have nLD : L ≠ D := fun z => by rw [z, hD4] at hL; cases hL
        have hD5 := s5 _ _ hD4
        have lu5 := lu.mono fun p x _ e => s5 _ _ e
        have hh5 := hh.mono (s14.trans s5)
        have e25 := e2.mono fun _ e => s5 _ _ e
        generalize upd H5 L (.lst (nats (leftOf mine o))) = H6 at s5 hL5 hD5 lu5 hh5 e25 ⊢
        generalize hle : leftOf mine o = left at lsub llen3 bnd hL5 ⊢
        have s46 : Same H3 H6 := s4.trans s5
        refine ⟨.ref L, rfl, L, rfl, ⟨_, SqL.of hL5⟩, ?_⟩
        refine for_it (walk_list (K := K) (a := L) (xs := nats left)) (fun k σ H' => ∃ vs x8 x9 x10, σ = [some (.ref a), some (.ref M), some (.ref Lc), some (.int (0 + (i : Int))), some (.ref D), some (.ref qo), some (oV last), some (.ref L), x8, x9, x10] ∧ H' D = some (.lst (vs.map V.ref)) ∧ LineAt H' vs (done ++ nextIn rs left (o, last) (left.take k)) ∧ Same H3 H' ∧ H' L = some (.lst (nats left)))
          ⟨us, _, _, _, rfl, hD5, (by rw [List.take_zero]; exact (List.append_nil done).symm ▸ lu5), s46, hL5⟩ (fun k σ H' _ ⟨_, _, _, _, _, _, _, _, l'⟩ => SqL.of l') ?_ ?_
        · rintro k x σ H7 H8 hk ⟨vs, x8, x9, x10, rfl, hD7, lv, s7, hL7⟩ ⟨rfl, hx⟩
          have hk2 : k < left.length := by unfold nats at hk; rw [List.length_map] at hk; exact hk
          have ex : x = .int (left[k] : Nat) := by
            unfold nats at hx
            rw [List.getElem?_map, List.getElem?_eq_getElem hk2] at hx
            exact (Option.some.inj hx).symm
          subst ex
          have tk2 : nextIn rs left (o, last) (left.take (k + 1)) = nextIn rs left (o, last) (left.take k) ++ (if okNext rs left last left[k] = true then [(o ++ [left[k]], lastB' rs left[k] last)] else []) := by
            unfold nextIn
            rw [List.take_add_one, List.getElem?_eq_getElem hk2, List.filter_append, List.map_append]
            congr 1
            show List.map _ (List.filter _ [left[k]]) = _
            rw [List.filter_cons]
            cases okNext rs left last left[k] <;> rfl
          have vl : vs.length = done.length + (nextIn rs left (o, last) (left.take k)).length := by
            rw [Paired.length lv, List.length_append]
          have nl : (nextIn rs left (o, last) (left.take k)).length ≤ 7 := by
            unfold nextIn
            rw [List.length_map]
            refine Nat.le_trans (List.length_filter_le _ _) ?_
            rw [List.length_take]
            omega
          rw [tk2]
          have hlt := lsub left[k] (List.getElem_mem hk2)
          generalize nextIn rs left (o, last) (left.take k) = nx at lv vl nl ⊢
          have hbd : done.length ≤ 7 ^ 7 := by omega
          generalize hm : left[k] = m at hlt ⊢
          have er : rs[m]? = some rs[m] := List.getElem?_eq_getElem hlt
          generalize rs[m] = r at er
          have s17 := s12.trans (s3.trans s7)
          have hh7 := hh.mono s17
          have e27 := e20.mono fun _ e => s7 _ _ e
          refine asg_go (early_lc (last := oV last) hh7 hL7 (by omega) lsub er fun G hG => ?_)
          have s8 := s7.trans (same_new (o := .lst (nats (earlyIn rs left m))) hG)
          have hG8 : upd H8 G (.lst (nats (earlyIn rs left m))) G = some (.lst (nats (earlyIn rs left m))) := upd_same
          have hD8 := same_new (o := .lst (nats (earlyIn rs left m))) hG _ _ hD7
          have hL8 := same_new (o := .lst (nats (earlyIn rs left m))) hG _ _ hL7
          have lv8 := lv.mono fun p x _ e => same_new (o := .lst (nats (earlyIn rs left m))) hG _ _ e
          generalize upd H8 G (.lst (nats (earlyIn rs left m))) = H9 at s8 hG8 hD8 hL8 lv8 ⊢
          refine ifs_go (fit_test (hh.mono (s12.trans (s3.trans s8))) er hG8 fun H10 s10 => ?_)
          have s30 := s8.trans s10
          have okE : okNext rs left last m = ((earlyIn rs left m).isEmpty && fitsB rs m last) := rfl
          rw [← okE]
          cases c : okNext rs left last m with
          | false =>
            refine iteF' ⟨vs, _, _, _, rfl, s10 _ _ hD8, ?_, s30, s10 _ _ hL8⟩
            rw [if_neg (by decide), List.append_nil]
            exact lv8.mono fun p x _ e => s10 _ _ e
          | true =>
            refine iteT' (drop_go (app_go (hh.mono (s12.trans (s3.trans s30))) er (e20.mono fun _ e => s30 _ _ e) (s10 _ _ hD8) ?_ (by omega) fun t H11 s11 ot hD11 => ?_))
            · rw [List.length_map, vl]
              exact Nat.lt_of_le_of_lt (show _ ≤ 7 ^ 7 + 7 by omega) (by decide)
            · have nDt : ∀ p x, (∀ l, x ≠ HO.lst l) → H11 p = some x → upd H11 D (.lst (vs.map V.ref ++ [.ref t])) p = some x := fun p x n e => by
                rw [upd_ne (fun z => by rw [z, hD11] at e; exact n _ (Option.some.inj e).symm)]
                exact e
              have s3F := s30.trans s11
              refine ⟨vs ++ [t], _, _, _, rfl, by rw [upd_same, List.map_append]; rfl, ?_, fun b o e => ?_, ?_⟩
              · rw [if_pos rfl, ← List.append_assoc]
                refine Paired.snoc ((lv8.mono fun p x _ e => s10 _ _ e).mono fun p x n e => nDt _ _ n (s11 _ _ e)) ?_
                obtain ⟨q', h1, h2⟩ := ot
                exact ⟨q', nDt _ _ (fun _ z => nomatch z) h1, h2.mono fun _ e => nDt _ _ (fun _ z => nomatch z) e⟩
              · rw [upd_ne (ne_of_none e hD)]
                exact s3F b o e
              · rw [upd_ne nLD]
                exact s11 _ _ (s10 _ _ hL8)
        · rintro σ H7 ⟨vs, x8, x9, x10, rfl, hD7, lv, s7, hL7⟩
          have e0 : left.take (nats left).length = left := by
            unfold nats
            rw [List.length_map, List.take_of_length_le (Nat.le_refl _)]
          rw [e0] at lv
          exact ⟨vs, _, _, _, _, _, _, rfl, hD7, lv, s7⟩
      · rintro σ H4 ⟨us, x5, x6, x7, x8, x9, x10, rfl, hD4, lu, s4⟩
        rw [List.length_map, tl, List.take_of_length_le (Nat.le_refl _)] at lu
        refine ⟨.ref D, rfl, D, _, rfl, .inl (SqL.of hD4), fun L2 hL2 => ?_⟩
        exact ⟨L2, us, _, _, _, _, _, _, _, _, rfl, upd_same, lu.mono fun p x _ e => same_new hL2 _ _ e, s3.trans (s4.trans (same_new hL2))⟩
    · rintro σ H3 ⟨Lc, ts, x3, x4, x5, x6, x7, x8, x9, x10, rfl, hLc, la, s3⟩
      rw [nM] at la
      refine ⟨.ref Lc, rfl, Lc, rfl, ⟨_, SqL.of hLc⟩, fun R hR => ?_⟩
      have llen : (lineOf rs mine mine.length).length ≤ 7 ^ 7 := by
        refine Nat.le_trans (line_len rs mine mine.length) ?_
        exact Nat.le_trans (Nat.pow_le_pow_left ml _) (Nat.pow_le_pow_right (by decide) ml)
      generalize lineOf rs mine mine.length = ls at la llen fin
      have tl : ts.length = ls.length := Paired.length la
      refine lc_it (walk_list (K := K) (a := Lc) (xs := ts.map V.ref)) (fun k H' => ∃ qs : List Addr, H' R = some (.lst (qs.map V.ref)) ∧ Paired (fun t o => TupD H' t (nats o)) qs ((ls.take k).map (·.1)) ∧ Same H3 H') ⟨[], upd_same, .nil, same_new hR⟩ (fun k H' _ ⟨_, _, _, s'⟩ => SqL.of (s' _ _ hLc)) ?_ ?_
      · rintro k x H4 H5 hk ⟨qs, hR4, pq, s4⟩ ⟨rfl, hx⟩
        have hk2 : k < ts.length := by rw [List.length_map] at hk; exact hk
        have hk3 : k < ls.length := by rw [← tl]; exact hk2
        have ex : x = .ref ts[k] := by
          rw [List.getElem?_map, List.getElem?_eq_getElem hk2] at hx
          exact (Option.some.inj hx).symm
        subst ex
        obtain ⟨qo, e1, e2⟩ := paired_at la hk2 hk3
        have ql : qs.length = k := by
          rw [Paired.length pq, List.length_map, List.length_take]
          omega
        have tk : (ls.take (k + 1)).map (·.1) = (ls.take k).map (·.1) ++ [ls[k].1] := by
          rw [List.take_add_one, List.getElem?_eq_getElem hk3, List.map_append]
          rfl
        rw [tk]
        replace e1 := s4 _ _ e1
        replace e2 := e2.mono fun _ e => s4 _ _ e
        refine ⟨ts[k], _, rfl, SqT.of e1, rfl, _, _, rfl, _, _, rfl, rfl, rfl, ?_⟩
        refine yes_go ⟨_, rfl, _, hR4, ?_, qs ++ [qo], by rw [upd_same, List.map_append]; rfl, ?_, fun b o e => ?_⟩
        · rw [List.length_map, ql]
          exact Nat.lt_of_le_of_lt (show k ≤ 7 ^ 7 by omega) (by decide)
        · have nDt : ∀ p x, (∀ l, x ≠ HO.lst l) → H5 p = some x → upd H5 R (.lst (qs.map V.ref ++ [.ref qo])) p = some x := fun p x n e => by
            rw [upd_ne (fun z => by rw [z, hR4] at e; exact n _ (Option.some.inj e).symm)]
            exact e
          exact Paired.snoc (Paired.mapP pq fun _ _ z => z.mono fun _ e => nDt _ _ (fun _ y => nomatch y) e) (e2.mono fun _ e => nDt _ _ (fun _ y => nomatch y) e)
        · rw [upd_ne (ne_of_none e hR)]
          exact s4 b o e
      · rintro H4 ⟨qs, hR4, pq, s4⟩
        rw [List.length_map, tl, List.take_of_length_le (Nat.le_refl _)] at pq
        exact fin R H4 (s12.trans (s3.trans s4)) ⟨qs, hR4, pq⟩
end
end K36
end

section
set_option Elab.async false
set_option linter.all false
set_option maxRecDepth 100000
set_option maxHeartbeats 4000000
/-! the zones, by the law -/
namespace K36
open PySem L2 KZ
abbrev sLZones : Stmt := top 40
abbrev LZ : Type := List (Option Int × Option Int × Int)
def getG (l : LZ) (k : Option Int) : Option (Option Int × Int) := (l.find? fun p => decide (p.1 = k)).map (·.2)
def setG (l : LZ) (k : Option Int) (v : Option Int × Int) : LZ := if (l.any fun p => decide (p.1 = k)) = true then l.map (fun p => if p.1 = k then (p.1, v) else p) else l ++ [(k, v)]
def ZE (H : Hp) (kv : NK × V) (z : Option Int × Option Int × Int) : Prop := kv.1 = nk z.1 ∧ ∃ q, kv.2 = .ref q ∧ H q = some (.tup [oV z.2.1, .int z.2.2])
def ZD (H : Hp) (kvs : List (NK × V)) (l : LZ) : Prop := Paired (ZE H) kvs l
theorem ZD.mono {H H' : Hp} {kvs : List (NK × V)} {l : LZ} (h : ZD H kvs l) (k : ∀ p x, H p = some (.tup x) → H' p = some (.tup x)) : ZD H' kvs l := Paired.mapP h fun _ _ ⟨e, q, e1, e2⟩ => ⟨e, q, e1, k _ _ e2⟩
theorem zd_any {H : Hp} {k : Option Int} : ∀ {kvs : List (NK × V)} {l : LZ}, ZD H kvs l → (kvs.any fun kv => decide (kv.1 = nk k)) = (l.any fun z => decide (z.1 = k))
  | [], [], .nil => rfl
  | kv :: kvs, z :: l, .cons ⟨e, _⟩ b => by
    rw [List.any_cons, List.any_cons, zd_any b, e]
    congr 1
    by_cases h : z.1 = k
    · rw [decide_eq_true h, decide_eq_true (by rw [h])]
    · rw [decide_eq_false h, decide_eq_false fun y => h (nk_inj y)]
theorem zd_put {H : Hp} {kvs : List (NK × V)} {l : LZ} {k : Option Int} {v : Option Int × Int} {q : Addr} (h : ZD H kvs l) (hq : H q = some (.tup [oV v.1, .int v.2])) : ZD H (putK kvs (nk k) (.ref q)) (setG l k v) := by
  unfold putK setG
  rw [zd_any h]
  split
  · have go : ∀ {kvs : List (NK × V)} {l : LZ}, ZD H kvs l → ZD H (kvs.map fun kv => if kv.1 = nk k then (kv.1, .ref q) else kv) (l.map fun p => if p.1 = k then (p.1, v) else p) := fun h => by
      induction h with
      | nil => exact .nil
      | @cons kv z kvs l a _ ih =>
        refine .cons ?_ ih
        obtain ⟨e, q', e1, e2⟩ := a
        by_cases hk : z.1 = k
        · show ZE H (if kv.1 = nk k then (kv.1, V.ref q) else kv) (if z.1 = k then (z.1, v) else z)
          rw [if_pos hk, if_pos (show kv.1 = nk k by rw [e, hk])]
          exact ⟨e, q, rfl, hq⟩
        · show ZE H (if kv.1 = nk k then (kv.1, V.ref q) else kv) (if z.1 = k then (z.1, v) else z)
          rw [if_neg hk, if_neg (show ¬ kv.1 = nk k from fun y => hk (nk_inj (e ▸ y)))]
          exact ⟨e, q', e1, e2⟩
    exact go h
  · exact Paired.snoc h ⟨rfl, q, rfl, hq⟩
theorem zd_val {H : Hp} {k : Option Int} : ∀ {kvs : List (NK × V)} {l : LZ}, ZD H kvs l → match getG l k with
    | none => valV kvs (nk k) = none
    | some z => ∃ q, valV kvs (nk k) = some (.ref q) ∧ H q = some (.tup [oV z.1, .int z.2])
  | [], [], .nil => rfl
  | kv :: kvs, z :: l, .cons ⟨e, q, e1, e2⟩ b => by
    have ih := zd_val (k := k) b
    by_cases h : z.1 = k
    · have g : getG (z :: l) k = some z.2 := by simp [getG, h]
      rw [g]
      exact ⟨q, by rw [valV_pos (by rw [e, h]), e1], e2⟩
    · have g : getG (z :: l) k = getG l k := by simp [getG, h]
      rw [g, valV_neg (fun y => h (nk_inj (e ▸ y)))]
      exact ih
def nextE (least e : Option Int) : Option Int := match e with
  | none => least
  | some e => match least with
    | none => some e
    | some x => some (min2 x e)
def startG (k : Option Int) : Option Int × Int := (if k = none then some (-1) else none, -1)
def stepG (rs : List Row) (l : LZ) (i : Nat) : LZ := match rs[i]? with
  | none => l
  | some r => setG l (lotOf r i) (nextE ((getG l (lotOf r i)).getD (startG (lotOf r i))).1 r.e, max2 ((getG l (lotOf r i)).getD (startG (lotOf r i))).2 r.b)
def lzF (rs : List Row) (ms : List Nat) : LZ := ms.foldl (stepG rs) []
def lzOf (rs : List Row) : LZ := lzF rs (partsOf rs)
def LZAt (P : Program) (w : World) (H : Hp) (D : Addr) (l : LZ) : Prop := ∃ kvs, H D = some (DN P w D kvs) ∧ ZD H kvs l
def spLZones (P : Program) (w : World) : Sp := fun vs H Q _ => ∃ a rs, vs = [.ref a] ∧ RowsAt H a rs ∧ rs.length ≤ 1000 ∧ (∀ r ∈ rs, r.Ok) ∧ firstBad rs = none ∧ ∀ D H', Same H H' → LZAt P w H' D (lzOf rs) → Q (.ref D) H'
theorem setG_len (l : LZ) (k : Option Int) (v : Option Int × Int) : (setG l k v).length ≤ l.length + 1 := by
  unfold setG
  split
  · rw [List.length_map]; omega
  · rw [List.length_append]; exact Nat.le_refl _
theorem lzF_len (rs : List Row) : ∀ (ms : List Nat) (l : LZ), (ms.foldl (stepG rs) l).length ≤ l.length + ms.length
  | [], l => by simp
  | m :: ms, l => by
    rw [List.foldl_cons]
    have h1 := lzF_len rs ms (stepG rs l m)
    have h2 : (stepG rs l m).length ≤ l.length + 1 := by
      unfold stepG
      split
      · omega
      · exact setG_len _ _ _
    rw [List.length_cons]
    omega
section
variable {P : Program} {w : World} {K : PySem.W.Frag} {mg : Str → Option Value} {base : Heap}
theorem lotz {a D : Addr} {m : Nat} {r : Row} {x7 x8 x9 : Option V} {H : Hp} {Q : VK} (q : Q (oV (lotOf r m)) H) :
    tIf (tTest (tOp rEq (tVar 3) (tC (.str "put")))) (tVar 2) (tVar 6) [some (.ref a), some (.ref D), some (.int m), some (.str (wd r.g)), some (.int r.b), some (oV r.e), some (oV r.t), x7, x8, x9] H Q := by
  refine ⟨.str (wd r.g), rfl, rfl, !r.g, (by cases r.g <;> decide +kernel), ?_⟩
  unfold lotOf at q
  cases hg : r.g with
  | true =>
    rw [hg, if_pos rfl] at q
    exact iteF' ⟨_, rfl, q⟩
  | false =>
    rw [hg, if_neg (by decide)] at q
    exact iteT' ⟨_, rfl, q⟩
theorem getz {a D : Addr} {m : Nat} {x3 x4 x5 x6 x8 x9 : Option V} {k : Option Int} {kvs : List (NK × V)} {l : LZ} {H : Hp} {Q : VK} (hD : H D = some (DN P w D kvs)) (zd : ZD H kvs l)
    (q : ∀ Z H', Same H H' → H' Z = some (.tup [oV ((getG l k).getD (startG k)).1, .int ((getG l k).getD (startG k)).2]) → Q (.ref Z) H') :
    tNGet2P P w (tVar 1) (tVar 7) (tTup (tCons (tIf (tTest (tOp (fun x y H Q => y = V.non ∧ Q (V.bl (decide (x = V.non))) H) (tVar 7) (tC V.non))) (tUn (rU fun i => V.int (-i)) (tC (V.int 1))) (tC V.non)) (tCons (tUn (rU fun i => V.int (-i)) (tC (V.int 1))) tNil)))
      [some (.ref a), some (.ref D), some (.int m), x3, x4, x5, x6, some (oV k), x8, x9] H Q := by
  have fin : ∀ H2 S, Same H H2 → H2 S = some (.tup [oV (startG k).1, .int (-1)]) → ∃ kvs' k', Rd H2 D (DN P w D kvs') ∧ oV k = nV k' ∧ Q ((valV kvs' k').getD (.ref S)) H2 := fun H2 S s2 hS => by
    refine ⟨kvs, nk k, .inl (s2 _ _ hD), (nk_v k).symm, ?_⟩
    have zv := zd_val (k := k) zd
    cases hg : getG l k with
    | none =>
      rw [hg] at zv q
      rw [show valV kvs (nk k) = none from zv]
      exact q S H2 s2 hS
    | some z =>
      rw [hg] at zv q
      obtain ⟨qz, e1, e2⟩ := zv
      rw [e1]
      exact q qz H2 s2 (s2 _ _ e2)
  refine ⟨.ref D, rfl, D, kvs, rfl, .inl hD, oV k, rfl, oV k, rfl, rfl, k.isNone, (by cases k <;> rfl), ?_⟩
  cases k with
  | none => exact iteT' ⟨1, rfl, 1, rfl, (by show 2 ≤ sizeLine; decide), fun S hS => fin _ S (same_new hS) upd_same⟩
  | some x => exact iteF' ⟨1, rfl, (by show 2 ≤ sizeLine; decide), fun S hS => fin _ S (same_new hS) upd_same⟩
theorem putz {a D : Addr} {m : Nat} {x3 x5 x6 : Option V} {k le : Option Int} {b mo : Int} {kvs : List (NK × V)} {l : LZ} {H : Hp} {Dd : Ends} (hD : H D = some (DN P w D kvs)) (zd : ZD H kvs l) (kl : kvs.length < sizeLine)
    (go : ∀ H' kvs', H' D = some (DN P w D kvs') → ZD H' kvs' (setG l k (le, max2 mo b)) → (∀ x o, x ≠ D → H x = some o → H' x = some o) → Dd.nx [some (.ref a), some (.ref D), some (.int m), x3, some (.int b), x5, x6, some (oV k), some (oV le), some (.int mo)] H') :
    sNPutP P w (tVar 1) (tVar 7) (tTup (tCons (tVar 8) (tCons (tCB (fun xs H Q => ∃ i j, xs = [V.int i, V.int j] ∧ Q (V.int (if j > i then j else i)) H) (tCons (tCB (fun xs H Q => (∃ i, xs = [V.int i] ∧ Q (V.int i) H) ∨ ∃ k, xs = [V.bl k] ∧ Q (V.int (if k = true then 1 else 0)) H) (tCons (tVar 9) tNil)) (tCons (tCB (fun xs H Q => (∃ i, xs = [V.int i] ∧ Q (V.int i) H) ∨ ∃ k, xs = [V.bl k] ∧ Q (V.int (if k = true then 1 else 0)) H) (tCons (tVar 4) tNil)) tNil))) tNil))) Dd
      [some (.ref a), some (.ref D), some (.int m), x3, some (.int b), x5, x6, some (oV k), some (oV le), some (.int mo)] H := by
  refine ⟨oV le, rfl, .int mo, rfl, .inl ⟨mo, rfl, .int b, rfl, .inl ⟨b, rfl, mo, b, rfl, (by show 2 ≤ sizeLine; decide), fun W hW => ?_⟩⟩⟩
  have s1 : Same H (upd H W (.tup [oV le, .int (max2 mo b)])) := same_new hW
  have hW1 : upd H W (.tup [oV le, .int (max2 mo b)]) W = some (.tup [oV le, .int (max2 mo b)]) := upd_same
  refine ⟨.ref D, rfl, oV k, rfl, D, kvs, nk k, rfl, s1 _ _ hD, (nk_v k).symm, kl, ?_⟩
  show Dd.nx _ (upd (upd H W (.tup [oV le, .int (max2 mo b)])) D (DN P w D (putK kvs (nk k) (.ref W))))
  have hD1 := s1 _ _ hD
  generalize upd H W (.tup [oV le, .int (max2 mo b)]) = H1 at s1 hW1 hD1 ⊢
  have z1 : ZD H1 (putK kvs (nk k) (.ref W)) (setG l k (le, max2 mo b)) := zd_put (zd.mono fun p x e => s1 _ _ e) hW1
  refine go _ _ upd_same (z1.mono fun p x e => ?_) fun x o n e => by rw [upd_ne n]; exact s1 _ _ e
  rw [upd_ne (fun z => by rw [z, hD1] at e; cases e)]
  exact e
theorem scLZones : FnScope ["rows", "found", "at", "word", "begun", "ended", "told", "lot", "least", "most"] ["rows"] (defScope sLZones) := ⟨rfl, rfl, rfl, by decide +kernel, rfl, by decide +kernel, by decide +kernel⟩
theorem ok_lzones {f : Addr} {fd : FuncData} (F : Fun K "_law_zones" "_law_zones" sLZones f fd) (T : B1 mg) (parts : Cal P w K mg base "_law_parts" 1 ["rows"] spLParts) : FnOk P w K mg base CX0 2 f fd ["rows"] (spLZones P w) := by
  obtain ⟨fP, dP, gP, GP, kP, bP⟩ := parts.ex
  refine F.ok scLZones (fun vs H Q E h => ?_) (fun cdv A' outer s H vs Q E hr h => ?_)
  · obtain ⟨a, rs, rfl, _⟩ := h
    rfl
  · obtain ⟨a, rs, rfl, hh, hl, ok, nb, q⟩ := h
    have hr1 : Room 1 _ := hr
    refine ⟨_, (pss_cons (ps_set (i := 1) scLZones.nd rfl (Or.inl rfl) (pe_nnewK P w))
(pss_cons (ps_for PassesOwn.never rfl (pi_list (pe_call GP hr1 (by rfl) gP kP bP .nil pass0 (pa_cons (pv 0) pa_nil))) (pg_name (i := 2) scLZones.nd rfl (Or.inl rfl))
(pss_cons (ps_asg (pe_slice sl_tup (pe_ix (ix_seqK K) (pv 0) (pv 2) (fun _ _ => rfl)) (po_some pe_int) po_none) (pg_tup rfl (pgs_cons (pg_name (i := 3) scLZones.nd rfl (Or.inl rfl)) (pgs_cons (pg_name (i := 4) scLZones.nd rfl (Or.inl rfl)) (pgs_cons (pg_name (i := 5) scLZones.nd rfl (Or.inl rfl)) (pgs_cons (pg_name (i := 6) scLZones.nd rfl (Or.inl rfl)) pgs_nil))))))
(pss_cons (ps_set (i := 7) scLZones.nd rfl (Or.inl rfl) (pe_ifExp (pt_cmpR op_eq (pv 3) pe_str (nomark _)) (pv 2) (pv 6)))
(pss_cons (ps_asg (pe_nget2K P w (pv 1) (pv 7) (pe_tup (pa_cons (pe_ifExp (pt_cmpR op_isN (pv 7) pe_non (nomark _)) (pe_un un_neg pe_int) pe_non) (pa_cons (pe_un un_neg pe_int) pa_nil))) ⟨rfl, rfl, rfl, rfl⟩) (pg_tup rfl (pgs_cons (pg_name (i := 8) scLZones.nd rfl (Or.inl rfl)) (pgs_cons (pg_name (i := 9) scLZones.nd rfl (Or.inl rfl)) pgs_nil))))
(pss_cons (ps_if (pt_cmpR op_notN (pv 5) pe_non (nomark _))
(pss_one (ps_set (i := 8) scLZones.nd rfl (Or.inl rfl) (pe_ifExp (pt_cmpR op_isN (pv 8) pe_non (nomark _)) (pv 5) (pe_callB (call_min2 rfl) (by rfl) T.min (by decide +kernel) (pa_cons (pe_callTy call_int1 (by rfl) T.int (by decide +kernel) (pa_cons (pv 8) pa_nil)) (pa_cons (pe_callTy call_int1 (by rfl) T.int (by decide +kernel) (pa_cons (pv 5) pa_nil)) pa_nil))))))
pss_nil)
(pss_one (ps_nputK P w (pv 1) (pv 7) (pe_tup (pa_cons (pv 8) (pa_cons (pe_callB (call_max2 rfl) (by rfl) T.max (by decide +kernel) (pa_cons (pe_callTy call_int1 (by rfl) T.int (by decide +kernel) (pa_cons (pv 9) pa_nil)) (pa_cons (pe_callTy call_int1 (by rfl) T.int (by decide +kernel) (pa_cons (pv 4) pa_nil)) pa_nil))) pa_nil))) rfl)))))))
(pss_one (ps_ret (pv 1))))), ?_⟩
    refine fun D hD => ?_
    have sD : Same H (upd H D (DN P w D [])) := same_new hD
    have hD1 : upd H D (DN P w D []) D = some (DN P w D []) := upd_same
    generalize upd H D (DN P w D []) = H1 at sD hD1 ⊢
    refine ⟨.ref a, rfl, a, rs, rfl, hh.mono sD, hl, ok, nb, fun M H2 s2 hM => ?_⟩
    refine ⟨M, rfl, ⟨_, SqL.of hM⟩, ?_⟩
    have pl := parts_le rs
    have plt : ∀ i ∈ partsOf rs, i < rs.length := fun i m => parts_lt m
    unfold lzOf at q
    generalize partsOf rs = ms at hM pl plt q
    refine for_it (walk_list (K := K) (a := M) (xs := nats ms)) (fun i σ H' => ∃ x2 x3 x4 x5 x6 x7 x8 x9 kvs, σ = [some (.ref a), some (.ref D), x2, x3, x4, x5, x6, x7, x8, x9] ∧ H' D = some (DN P w D kvs) ∧ ZD H' kvs (lzF rs (ms.take i)) ∧ Same H H' ∧ H' M = some (.lst (nats ms)))
      ⟨_, _, _, _, _, _, _, _, [], rfl, s2 _ _ hD1, .nil, sD.trans s2, hM⟩ (fun i σ H' _ ⟨_, _, _, _, _, _, _, _, _, _, _, _, _, m'⟩ => SqL.of m') ?_ ?_
    · rintro i x σ H3 H4 hi ⟨x2, x3, x4, x5, x6, x7, x8, x9, kvs, rfl, hD3, zd, s3, hM3⟩ ⟨rfl, hx⟩
      have hi2 : i < ms.length := by unfold nats at hi; rw [List.length_map] at hi; exact hi
      have ex : x = .int (ms[i] : Nat) := by
        unfold nats at hx
        rw [List.getElem?_map, List.getElem?_eq_getElem hi2] at hx
        exact (Option.some.inj hx).symm
      subst ex
      have tk : lzF rs (ms.take (i + 1)) = stepG rs (lzF rs (ms.take i)) ms[i] := by
        unfold lzF
        rw [List.take_add_one, List.getElem?_eq_getElem hi2, List.foldl_append]
        rfl
      have ll : (lzF rs (ms.take i)).length ≤ 1000 := by
        have := lzF_len rs (ms.take i) []
        unfold lzF
        simp only [List.length_nil, List.length_take] at this
        omega
      have hlt := plt ms[i] (List.getElem_mem hi2)
      rw [tk]
      generalize lzF rs (ms.take i) = l at zd ll ⊢
      generalize ms[i] = m at hlt ⊢
      have er : rs[m]? = some rs[m] := List.getElem?_eq_getElem hlt
      have stE : stepG rs l m = setG l (lotOf rs[m] m) (nextE ((getG l (lotOf rs[m] m)).getD (startG (lotOf rs[m] m))).1 rs[m].e, max2 ((getG l (lotOf rs[m] m)).getD (startG (lotOf rs[m] m))).2 rs[m].b) := by
        unfold stepG
        rw [er]
      rw [stE]
      obtain ⟨p, xs, sq, at1, hp⟩ := (hh.mono s3).at (K := K) er
      generalize rs[m] = r at hp ⊢
      have kl : kvs.length < sizeLine := by
        rw [Paired.length zd]
        exact Nat.lt_of_le_of_lt ll (by decide)
      refine ⟨.ref a, rfl, .int m, rfl, Sq.ix (.inl sq) at1 ⟨1, rfl, p, rowV r, rfl, SqT.of hp, (show ¬(HT.sIx 5 0 (some 1) = 0 ∧ HT.sIx 5 5 none = 5) by decide), fun S hS => ?_⟩⟩
      have s4 := s3.trans (same_new (o := .tup (cutV (rowV r) (some 1) none)) hS)
      have hS4 : upd H4 S (.tup (cutV (rowV r) (some 1) none)) S = some (.tup [.str (wd r.g), .int r.b, oV r.e, oV r.t]) := upd_same
      have hD4 := same_new (o := .tup (cutV (rowV r) (some 1) none)) hS _ _ hD3
      have hM4 := same_new (o := .tup (cutV (rowV r) (some 1) none)) hS _ _ hM3
      have zd4 := zd.mono fun p x e => same_new (o := .tup (cutV (rowV r) (some 1) none)) hS _ _ e
      generalize upd H4 S (.tup (cutV (rowV r) (some 1) none)) = H5 at s4 hS4 hD4 hM4 zd4 ⊢
      refine ⟨S, _, rfl, SqT.of hS4, rfl, _, _, rfl, _, _, rfl, _, _, rfl, _, _, rfl, rfl, ?_⟩
      refine asg_go (lotz ?_)
      generalize lotOf r m = k
      refine asg_go (getz hD4 zd4 fun Z H6 s6 hZ => ?_)
      generalize (getG l k).getD (startG k) = cur at hZ
      refine ⟨Z, _, rfl, SqT.of hZ, rfl, _, _, rfl, _, _, rfl, rfl, ?_⟩
      have s46 := s4.trans s6
      have hD6 := s6 _ _ hD4
      have hM6 := s6 _ _ hM4
      have zd6 := zd4.mono fun p x e => s6 _ _ e
      have last : ∀ le : Option Int, le = nextE cur.1 r.e → ∀ H' kvs', H' D = some (DN P w D kvs') → ZD H' kvs' (setG l k (le, max2 cur.2 r.b)) → (∀ x o, x ≠ D → H6 x = some o → H' x = some o) →
          ∃ x2 x3 x4 x5 x6 x7 x8 x9 kvs, [some (V.ref a), some (.ref D), some (.int m), some (.str (wd r.g)), some (.int r.b), some (oV r.e), some (oV r.t), some (oV k), some (oV le), some (.int cur.2)] = [some (V.ref a), some (.ref D), x2, x3, x4, x5, x6, x7, x8, x9] ∧ H' D = some (DN P w D kvs) ∧ ZD H' kvs (setG l k (nextE cur.1 r.e, max2 cur.2 r.b)) ∧ Same H H' ∧ H' M = some (.lst (nats ms)) := fun le e H' kvs' e1 e2 e3 => by
        subst e
        exact ⟨_, _, _, _, _, _, _, _, kvs', rfl, e1, e2, fun b o eb => e3 b o (ne_of_none eb hD) (s46 _ _ eb), e3 _ _ (fun z => by rw [z, hD6] at hM6; cases hM6) hM6⟩
      dsimp only [tSeq]
      refine ifs_go ?_
      refine ⟨oV r.e, rfl, rfl, r.e.isSome, (by cases r.e <;> rfl), ?_⟩
      cases he : r.e with
      | none => exact iteF' (putz hD6 zd6 kl (by have L := last cur.1 (by rw [he]; rfl); rw [he] at L; exact L))
      | some e =>
        refine iteT' (asg_go ?_)
        refine ⟨oV cur.1, rfl, rfl, cur.1.isNone, (by cases cur.1 <;> rfl), ?_⟩
        cases hc : cur.1 with
        | none => exact iteT' ⟨_, rfl, putz (le := some e) hD6 zd6 kl (by have L := last (some e) (by rw [he, hc]; rfl); rw [he, hc] at L; exact L)⟩
        | some x => exact iteF' ⟨_, rfl, .inl ⟨x, rfl, _, rfl, .inl ⟨e, rfl, x, e, rfl, putz (le := some (min2 x e)) hD6 zd6 kl (by have L := last (some (min2 x e)) (by rw [he, hc]; rfl); rw [he, hc] at L; exact L)⟩⟩⟩
    · rintro σ H3 ⟨x2, x3, x4, x5, x6, x7, x8, x9, kvs, rfl, hD3, zd, s3, hM3⟩
      have e0 : ms.take (nats ms).length = ms := by
        unfold nats
        rw [List.length_map, List.take_of_length_le (Nat.le_refl _)]
      rw [e0] at zd
      exact ⟨_, rfl, q D H3 s3 ⟨kvs, hD3, zd⟩⟩
end
end K36
end

section
set_option Elab.async false
set_option linter.all false
set_option maxRecDepth 100000
set_option maxHeartbeats 4000000
/-! what is heard of a call -/
namespace K36
open PySem L2 KZ
abbrev sHeard : Stmt := top 38
theorem scHeard : FnScope ["work", "caught", "found", "error"] ["work"] (defScope sHeard) := ⟨rfl, rfl, rfl, by decide +kernel, rfl, by decide +kernel, by decide +kernel⟩
structure HErr (K : PySem.W.Frag) (cO cB cT cC : Addr) : Prop where
  tB : ExcT K cB
  tT : ExcT K cT
  tC : ExcT K cC
  eB : PySem.W.exmOne K (.ref cB) (.ref cO) = some true
  eT : PySem.W.exmOne K (.ref cT) (.ref cO) = some true
  eC : PySem.W.exmOne K (.ref cC) (.ref cO) = some true
  bt : PySem.W.kitOne K (.ref cB) (.ref cT) = some false
  bb : PySem.W.kitOne K (.ref cB) (.ref cB) = some true
  tt : PySem.W.kitOne K (.ref cT) (.ref cT) = some true
  ct : PySem.W.kitOne K (.ref cC) (.ref cT) = some false
  cb : PySem.W.kitOne K (.ref cC) (.ref cB) = some false
  cc : PySem.W.kitOne K (.ref cC) (.ref cC) = some true
  nP : PySem.W.findIn K (.ref cB) "part" = some none
  nC : PySem.W.findIn K (.ref cC) "part" = some none
  nW : PySem.W.findIn K (.ref cT) "what" = some none
  nM : PySem.W.findIn K (.ref cT) "most" = some none
def HeardE (cB cT cC : Addr) (Q : VK) : XK := fun cls d H => ∃ dd fs, d = some dd ∧ H dd = some (.xd fs) ∧
  ((cls = .ref cB ∧ ∃ v, fs.lookup ("part" : Str) = some v ∧ ∀ t H2, Same H H2 → H2 t = some (.tup [.str "ask", v]) → Q (.ref t) H2) ∨
   (cls = .ref cT ∧ ∃ v u, fs.lookup ("what" : Str) = some v ∧ fs.lookup ("most" : Str) = some u ∧ ∀ t H2, Same H H2 → H2 t = some (.tup [.str "many", v, u]) → Q (.ref t) H2) ∨
   (cls = .ref cC ∧ ∃ v, fs.lookup ("part" : Str) = some v ∧ ∀ t H2, Same H H2 → H2 t = some (.tup [.str "clash", v]) → Q (.ref t) H2))
def HeardL (Q : VK) : VK := fun v H => ∀ t H2, Same H H2 → H2 t = some (.lst [v]) → Q (.ref t) H2
def TTh (cB cT cC : Addr) : (XK → Hp → VK → Prop) → Hp → VK → Prop := fun tl H Q => ∀ (H1 : Hp) (Q' : VK), Same H H1 → (∀ v H', HeardL Q v H' → Q' v H') → tl (HeardE cB cT cC Q) H1 Q'
theorem heard_gives {X : Cx} {K : PySem.W.Frag} {cO cB cT cC g : Addr} {cdg : Value} {q : Str} (hK : X.K = K) (hr : Room 2 X.A) (gO : X.mg "OpenError" = some (.ref cO)) (gB : X.mg "BadAsk" = some (.ref cB)) (gT : X.mg "TooMany" = some (.ref cT)) (gC : X.mg "Clashing" = some (.ref cC)) (T : B1 X.mg) (EB : HErr K cO cB cT cC) :
    LamX.GivesTo X ["work", "caught", "found", "error"] "_law_heard" (defScope sHeard) g cdg (defBody sHeard) "work" q (TTh cB cT cC) := by
  subst hK
  intro f c' s H Q tl act hc h
  let K := X.K
  let Z := (cxOf C8.CX0 X.prog X.w X.K X.mg X.base ["work", "caught", "found", "error"] "_law_heard" (defScope sHeard) g cdg X.A X.stack s H C8.E0).nox
  refine ⟨_, pss_cons (X := Z) (ps_asg (pe_tup (pa_cons pe_non (pa_cons pe_non pa_nil))) (pg_tup (by rfl) (pgs_cons (pg_name (i := 1) scHeard.nd rfl (Or.inl rfl)) (pgs_cons (pg_name (i := 2) scHeard.nd rfl (Or.inl rfl)) pgs_nil))))
    (pss_cons (ps_try_keep (X := Z) (c := .ref cO) (i := 3) (j := 1)
      (tb := fun W D σ H => ∃ Ech : XK, (∀ cls d σ' H', Ech cls d H' → σ'.length = 4 → W cls d σ' H') ∧ σ[0]? = some (some (.ref f)) ∧ H c' = some (LamX.CodeO c' q) ∧ tl Ech H fun v H' => D.nx (σ.set 2 (some v)) H')
      rfl rfl rfl scHeard.nd rfl rfl rfl rfl ⟨rfl, rfl, .inl gO⟩ LamX.takes0 rfl rfl rfl (fun W pn xe tk _ => ?_))
    (pss_cons (ps_if (pt_cmpR op_isN (pv 1) pe_non (nomark _))
(pss_one (ps_ret (pe_lst (pa_cons (pv 2) pa_nil))))
pss_nil)
(pss_cons (ps_if (pt_val (pe_callB call_isE (by rfl) T.isi (by decide +kernel) (pa_cons (pv 1) (pa_cons (pe_glob (v := .ref cT) (by rfl) gT rfl) pa_nil))))
(pss_one (ps_ret (pe_tup (pa_cons pe_str (pa_cons (pe_efK K (pv 1)) (pa_cons (pe_efK K (pv 1)) pa_nil))))))
pss_nil)
(pss_cons (ps_if (pt_val (pe_callB call_isE (by rfl) T.isi (by decide +kernel) (pa_cons (pv 1) (pa_cons (pe_glob (v := .ref cB) (by rfl) gB rfl) pa_nil))))
(pss_one (ps_ret (pe_tup (pa_cons pe_str (pa_cons (pe_efK K (pv 1)) pa_nil)))))
pss_nil)
(pss_one (ps_ret (pe_ifExp (pt_val (pe_callB call_isE (by rfl) T.isi (by decide +kernel) (pa_cons (pv 1) (pa_cons (pe_glob (v := .ref cC) (by rfl) gC rfl) pa_nil)))) (pe_tup (pa_cons pe_str (pa_cons (pe_efK K (pv 1)) pa_nil))) (pe_tup (pa_cons pe_str pa_nil))))))))), ?_⟩
  · refine ⟨fun pins s' σ H' D I h' => ?_⟩
    obtain ⟨Ech, hW, h1, h2, h3⟩ := h'
    have tk2 : Takes (Z.tr pn xe) (fun cls d σ H => σ.length = 4 → W cls d σ H) := fun u s' ⟨a, B, sI, pins, σ, H, cls, d, e, I, nb, up, sky, na, os, ag, w⟩ => tk u s' ⟨a, B, sI, pins, σ, H, cls, d, e, I, nb, up, sky, na, os, ag, w I.len⟩
    refine PSs.run (pss_one (ps_set (i := 2) scHeard.nd rfl (Or.inl rfl) (act (fun cls d σ H => σ.length = 4 → W cls d σ H) pn xe Ech ?_ ?_ tk2 hW))) pins s' σ H' D I ⟨h1, h2, h3⟩
  · refine ⟨(by show 2 ≤ sizeLine; decide), fun t0 ht0 => ⟨t0, _, rfl, SqT.of upd_same, rfl, _, _, rfl, _, _, rfl, rfl, ?_⟩⟩
    have s1 : Same H (upd H t0 (.tup [.non, .non])) := same_new ht0
    have hc1 := s1 _ _ hc
    generalize upd H t0 (.tup [.non, .non]) = H1 at s1 hc1 ⊢
    refine ⟨HeardE cB cT cC Q, ?_, rfl, hc1, ?_⟩
    · rintro cls d σ' H' ⟨dd, fs, rfl, hd, hh⟩ hl
      have nd : ∀ {a : Addr}, H' a = none → dd ≠ a := fun {a} ha z => by rw [z, ha] at hd; cases hd
      obtain ⟨y0, y1, y2, y3, rfl⟩ : ∃ y0 y1 y2 y3, σ' = [y0, y1, y2, y3] := by
        match σ', hl with
        | [y0, y1, y2, y3], _ => exact ⟨_, _, _, _, rfl⟩
      have prep : ∀ (c : Addr) (a : Addr), H' a = none → upd H' a (EXO c a (some dd)) a = some (EXO c a (some dd)) ∧ XD (upd H' a (EXO c a (some dd))) dd fs ∧ Same H' (upd H' a (EXO c a (some dd))) := fun c a ha => ⟨upd_same, .inr (by rw [upd_ne (nd ha)]; exact hd), same_new ha⟩
      rcases hh with ⟨rfl, v, lk, qq⟩ | ⟨rfl, v, u, lk, lk2, qq⟩ | ⟨rfl, v, lk, qq⟩
      · refine ⟨cB, rfl, true, EB.eB, fun _ a ha => ?_, fun z => nomatch z⟩
        obtain ⟨ea, xd, sa⟩ := prep cB a ha
        generalize upd H' a (EXO cB a (some dd)) = Ha at ea xd sa ⊢
        have ed : ∀ d2, some dd = some d2 → ∃ fs, XD Ha d2 fs := fun _ z => by cases z; exact ⟨fs, xd⟩
        refine ⟨.ref a, rfl, rfl, false, congrArg V.bl (decide_eq_false fun z => nomatch z), iteF ?_⟩
        refine ⟨.ref a, rfl, a, cB, some dd, .ref cT, .ref cT, false, rfl, .own _, EB.tB, ea, ed, EB.bt, false, rfl, iteF' ?_⟩
        refine ⟨.ref a, rfl, a, cB, some dd, .ref cB, .ref cB, true, rfl, .own _, EB.tB, ea, ed, EB.bb, true, rfl, iteT' ?_⟩
        refine ⟨.ref a, rfl, a, cB, dd, fs, v, rfl, EB.tB, EB.nP, ea, xd, lk, by show 2 ≤ sizeLine; decide, fun t ht => ?_⟩
        exact qq t _ (sa.trans (same_new ht)) upd_same
      · refine ⟨cT, rfl, true, EB.eT, fun _ a ha => ?_, fun z => nomatch z⟩
        obtain ⟨ea, xd, sa⟩ := prep cT a ha
        generalize upd H' a (EXO cT a (some dd)) = Ha at ea xd sa ⊢
        have ed : ∀ d2, some dd = some d2 → ∃ fs, XD Ha d2 fs := fun _ z => by cases z; exact ⟨fs, xd⟩
        refine ⟨.ref a, rfl, rfl, false, congrArg V.bl (decide_eq_false fun z => nomatch z), iteF ?_⟩
        refine ⟨.ref a, rfl, a, cT, some dd, .ref cT, .ref cT, true, rfl, .own _, EB.tT, ea, ed, EB.tt, true, rfl, iteT' ?_⟩
        refine ⟨.ref a, rfl, a, cT, dd, fs, v, rfl, EB.tT, EB.nW, ea, xd, lk, .ref a, rfl, a, cT, dd, fs, u, rfl, EB.tT, EB.nM, ea, xd, lk2, by show 3 ≤ sizeLine; decide, fun t ht => ?_⟩
        exact qq t _ (sa.trans (same_new ht)) upd_same
      · refine ⟨cC, rfl, true, EB.eC, fun _ a ha => ?_, fun z => nomatch z⟩
        obtain ⟨ea, xd, sa⟩ := prep cC a ha
        generalize upd H' a (EXO cC a (some dd)) = Ha at ea xd sa ⊢
        have ed : ∀ d2, some dd = some d2 → ∃ fs, XD Ha d2 fs := fun _ z => by cases z; exact ⟨fs, xd⟩
        refine ⟨.ref a, rfl, rfl, false, congrArg V.bl (decide_eq_false fun z => nomatch z), iteF ?_⟩
        refine ⟨.ref a, rfl, a, cC, some dd, .ref cT, .ref cT, false, rfl, .own _, EB.tC, ea, ed, EB.ct, false, rfl, iteF' ?_⟩
        refine ⟨.ref a, rfl, a, cC, some dd, .ref cB, .ref cB, false, rfl, .own _, EB.tC, ea, ed, EB.cb, false, rfl, iteF' ?_⟩
        refine ⟨.ref a, rfl, a, cC, some dd, .ref cC, .ref cC, true, rfl, .own _, EB.tC, ea, ed, EB.cc, true, rfl, iteT' ?_⟩
        refine ⟨.ref a, rfl, a, cC, dd, fs, v, rfl, EB.tC, EB.nC, ea, xd, lk, by show 2 ≤ sizeLine; decide, fun t ht => ?_⟩
        exact qq t _ (sa.trans (same_new ht)) upd_same
    · exact h H1 _ s1 fun v H' z => ⟨.non, rfl, rfl, true, rfl, iteT ⟨v, rfl, by show 1 ≤ sizeLine; decide, fun t ht => z t _ (same_new ht) upd_same⟩⟩
end K36
end

section
set_option linter.all false
/-! orders of asks: what one is, how one is made -/
namespace OM
structure Hst where
  mine : List Nat
  A : Nat → Nat → Bool
  put : Nat → Bool
  lot : Nat → Option Int
  nd : mine.Nodup
  lp : ∀ i, i ∈ mine → put i = true → lot i = some (i : Int)
  lg : ∀ i, i ∈ mine → ∀ x, lot i = some x → ∃ p : Nat, x = p ∧ p ∈ mine ∧ put p = true
  irr : ∀ i, A i i = false
variable (h : Hst)
/-- the last put of a row, l where there is none -/
def lastP (put : Nat → Bool) (l : Option Int) (o : List Nat) : Option Int := o.foldl (fun l i => if put i = true then some (i : Int) else l) l
/-- a row that the asks can begin with -/
structure OkSeq (o : List Nat) : Prop where
  nd : o.Nodup
  sub : ∀ i, i ∈ o → i ∈ h.mine
  step : ∀ a x b, o = a ++ x :: b → (∀ i, i ∈ h.mine → i ∉ a → i ≠ x → h.A i x = false) ∧ (h.put x = true ∨ h.lot x = lastP h.put none a)
def Full (o : List Nat) : Prop := OkSeq h o ∧ o.length = h.mine.length
/-- the same, of pairs -/
structure Good (o : List Nat) : Prop where
  pm : o.Perm h.mine
  ah : ∀ i j, i ∈ h.mine → j ∈ h.mine → i ≠ j → h.A i j = true → o.idxOf i < o.idxOf j
  pf : ∀ i (p : Nat), i ∈ h.mine → h.put i = false → h.lot i = some (p : Int) → o.idxOf p < o.idxOf i
  bl : ∀ i j k, i ∈ h.mine → j ∈ h.mine → k ∈ h.mine → h.lot i = h.lot k → o.idxOf i ≤ o.idxOf j → o.idxOf j ≤ o.idxOf k → h.lot j = h.lot i
  nf : ∀ i j, i ∈ h.mine → j ∈ h.mine → h.lot i = none → h.put j = true → o.idxOf i < o.idxOf j
section
variable {h : Hst} {put : Nat → Bool}
theorem lastP_cons (l : Option Int) (i : Nat) (o : List Nat) : lastP put l (i :: o) = lastP put (if put i = true then some (i : Int) else l) o := rfl
theorem lastP_app (l : Option Int) (a b : List Nat) : lastP put l (a ++ b) = lastP put (lastP put l a) b := by
  unfold lastP
  rw [List.foldl_append]
theorem lastP_no : ∀ {o : List Nat} {l : Option Int}, (∀ x, x ∈ o → put x = false) → lastP put l o = l
  | [], _, _ => rfl
  | i :: o, l, n => by
    rw [lastP_cons, n i List.mem_cons_self, if_neg (by decide)]
    exact lastP_no fun x m => n x (List.mem_cons_of_mem _ m)
/-- the last put, where there is one -/
theorem lastP_split : ∀ {o : List Nat}, (∃ x, x ∈ o ∧ put x = true) → ∃ a q b, o = a ++ q :: b ∧ put q = true ∧ (∀ x, x ∈ b → put x = false)
  | [], ⟨x, m, _⟩ => by cases m
  | i :: o, ⟨x, m, hx⟩ => by
    by_cases e : ∃ y, y ∈ o ∧ put y = true
    · obtain ⟨a, q, b, e1, e2, e3⟩ := lastP_split e
      exact ⟨i :: a, q, b, by rw [e1]; rfl, e2, e3⟩
    · have no : ∀ y, y ∈ o → put y = false := fun y my => by
        cases z : put y with
        | false => rfl
        | true => exact absurd ⟨y, my, z⟩ e
      rcases List.mem_cons.mp m with rfl | m
      · exact ⟨[], x, o, rfl, hx, no⟩
      · rw [no x m] at hx
        cases hx
theorem lastP_of {a b : List Nat} {q : Nat} {l : Option Int} (hq : put q = true) (no : ∀ x, x ∈ b → put x = false) : lastP put l (a ++ q :: b) = some (q : Int) := by
  rw [lastP_app, lastP_cons, if_pos hq, lastP_no no]
theorem lastP_some {o : List Nat} {x : Int} (e : lastP put none o = some x) : ∃ a q b, o = a ++ q :: b ∧ put q = true ∧ (∀ x, x ∈ b → put x = false) ∧ x = q := by
  by_cases z : ∃ x, x ∈ o ∧ put x = true
  · obtain ⟨a, q, b, e1, e2, e3⟩ := lastP_split z
    rw [e1, lastP_of e2 e3] at e
    exact ⟨a, q, b, e1, e2, e3, (Option.some.inj e).symm⟩
  · rw [lastP_no] at e
    · cases e
    · intro y my
      cases w : put y with
      | false => rfl
      | true => exact absurd ⟨y, my, w⟩ z
theorem lastP_none {o : List Nat} (e : lastP put none o = none) : ∀ x, x ∈ o → put x = false := fun y my => by
  cases w : put y with
  | false => rfl
  | true =>
    obtain ⟨a, q, b, e1, e2, e3⟩ := lastP_split (o := o) ⟨y, my, w⟩
    rw [e1, lastP_of e2 e3] at e
    cases e
/-! places -/
theorem idx_lt_of_split {a b : List Nat} {x y : Nat} (nd : (a ++ x :: b).Nodup) : y ∈ a → (a ++ x :: b).idxOf y < (a ++ x :: b).idxOf x := fun m => by
  have nx : x ∉ a := fun mx => by
    rw [List.nodup_append] at nd
    exact nd.2.2 x mx x List.mem_cons_self rfl
  rw [List.idxOf_append, if_pos m, List.idxOf_append, if_neg nx, List.idxOf_cons_self]
  have := List.idxOf_lt_length_iff.mpr m
  omega
theorem mem_of_idx_lt {a b : List Nat} {x y : Nat} (nd : (a ++ x :: b).Nodup) (my : y ∈ a ++ x :: b) (l : (a ++ x :: b).idxOf y < (a ++ x :: b).idxOf x) : y ∈ a := by
  have nx : x ∉ a := fun mx => by
    rw [List.nodup_append] at nd
    exact nd.2.2 x mx x List.mem_cons_self rfl
  by_cases m : y ∈ a
  · exact m
  · rw [List.idxOf_append, if_neg m, List.idxOf_append, if_neg nx, List.idxOf_cons_self] at l
    omega
theorem split_at {o : List Nat} {x : Nat} (m : x ∈ o) : ∃ a b, o = a ++ x :: b ∧ x ∉ a := by
  induction o with
  | nil => cases m
  | cons y o ih =>
    by_cases e : x = y
    · exact ⟨[], o, by rw [e]; rfl, fun z => nomatch z⟩
    · rcases List.mem_cons.mp m with z | m
      · exact absurd z e
      · obtain ⟨a, b, e1, e2⟩ := ih m
        refine ⟨y :: a, b, by rw [e1]; rfl, fun z => ?_⟩
        rcases List.mem_cons.mp z with z | z
        · exact e z
        · exact e2 z
theorem idx_inj {o : List Nat} {x y : Nat} (mx : x ∈ o) (my : y ∈ o) (e : o.idxOf x = o.idxOf y) : x = y := by
  have h1 := List.idxOf_lt_length_iff.mpr mx
  have h2 := List.idxOf_lt_length_iff.mpr my
  have e1 : o[o.idxOf x]'h1 = x := List.getElem_idxOf h1
  have e2 : o[o.idxOf y]'h2 = y := List.getElem_idxOf h2
  rw [← e1, ← e2]
  congr 1
theorem good_full {o : List Nat} (g : Good h o) : Full h o := by
  have nd : o.Nodup := g.pm.nodup_iff.mpr h.nd
  refine ⟨⟨nd, fun i m => g.pm.mem_iff.mp m, ?_⟩, g.pm.length_eq⟩
  rintro a x b rfl
  have mx : x ∈ h.mine := g.pm.mem_iff.mp (List.mem_append_right _ List.mem_cons_self)
  refine ⟨fun i mi na nx => ?_, ?_⟩
  · cases z : h.A i x with
    | false => rfl
    | true =>
      have l := g.ah i x mi mx nx z
      exact absurd (mem_of_idx_lt nd (g.pm.mem_iff.mpr mi) l) na
  · cases hp : h.put x with
    | true => exact .inl rfl
    | false =>
      refine .inr ?_
      cases hl : h.lot x with
      | none =>
        symm
        refine lastP_no fun y my => ?_
        cases hy : h.put y with
        | false => rfl
        | true =>
          have m2 : y ∈ h.mine := g.pm.mem_iff.mp (List.mem_append_left _ my)
          have l := g.nf x y mx m2 hl hy
          have l2 := idx_lt_of_split nd my
          omega
      | some z =>
        obtain ⟨p, rfl, mp, pp⟩ := h.lg x mx z hl
        have l := g.pf x p mx hp hl
        have pa : p ∈ a := mem_of_idx_lt nd (g.pm.mem_iff.mpr mp) l
        obtain ⟨a1, q, a2, e, hq, no⟩ := lastP_split (o := a) ⟨p, pa, pp⟩
        have mq : q ∈ h.mine := g.pm.mem_iff.mp (List.mem_append_left _ (by rw [e]; exact List.mem_append_right _ List.mem_cons_self))
        have qa : q ∈ a := by rw [e]; exact List.mem_append_right _ List.mem_cons_self
        have pq : p = q := by
          rw [e] at pa
          rcases List.mem_append.mp pa with m1 | m1
          · have nda : (a1 ++ q :: (a2 ++ x :: b)).Nodup := by
              rw [e] at nd
              simpa using nd
            have l1 : (a ++ x :: b).idxOf p < (a ++ x :: b).idxOf q := by
              have := idx_lt_of_split nda m1
              rw [e]
              simpa using this
            have l2 := idx_lt_of_split nd qa
            have lot_q := g.bl p q x mp mq mx (by rw [h.lp p mp pp, hl]) (by omega) (by omega)
            rw [h.lp q mq hq, h.lp p mp pp] at lot_q
            have := Option.some.inj lot_q
            omega
          · rcases List.mem_cons.mp m1 with z | m1
            · exact z
            · rw [no p m1] at pp
              cases pp
        rw [e, lastP_of hq no, pq]
/-- the lot at each place is the last put's -/
theorem lot_last {o : List Nat} (k : OkSeq h o) {a b : List Nat} {x : Nat} (e : o = a ++ x :: b) : h.lot x = lastP h.put none (a ++ [x]) := by
  rw [lastP_app, lastP_cons]
  show h.lot x = if h.put x = true then some (x : Int) else lastP h.put none a
  have mx : x ∈ h.mine := k.sub x (by rw [e]; exact List.mem_append_right _ List.mem_cons_self)
  rcases (k.step a x b e).2 with p | p
  · rw [if_pos p, h.lp x mx p]
  · by_cases hp : h.put x = true
    · rw [if_pos hp, h.lp x mx hp]
    · rw [if_neg hp, p]
theorem perm_of {l : List Nat} : ∀ {o : List Nat}, o.Nodup → (∀ x, x ∈ o → x ∈ l) → o.length = l.length → o.Perm l := by
  intro o
  induction o generalizing l with
  | nil =>
    intro _ _ e
    cases l with
    | nil => exact .nil
    | cons x l => cases e
  | cons x o ih =>
    intro nd sub e
    have mx := sub x List.mem_cons_self
    have p := List.perm_cons_erase mx
    obtain ⟨nx, nd2⟩ := List.nodup_cons.mp nd
    have e2 : o.length = (l.erase x).length := by
      have := p.length_eq
      rw [List.length_cons] at this e
      omega
    refine (List.Perm.cons x (ih nd2 (fun y my => ?_) e2)).trans p.symm
    have : y ∈ x :: l.erase x := p.mem_iff.mp (sub y (List.mem_cons_of_mem _ my))
    rcases List.mem_cons.mp this with z | z
    · exact absurd (z ▸ my) nx
    · exact z
theorem full_perm {o : List Nat} (f : Full h o) : o.Perm h.mine := perm_of f.1.nd f.1.sub f.2
theorem split_idx {o : List Nat} {x : Nat} {a b : List Nat} (e : o = a ++ x :: b) (nx : x ∉ a) : o.idxOf x = a.length := by
  rw [e, List.idxOf_append, if_neg nx, List.idxOf_cons_self]
  omega
/-- a stretch of one lot -/
theorem full_block {o : List Nat} (f : Full h o) {i j k : Nat} (mi : i ∈ o) (mj : j ∈ o) (mk : k ∈ o) (e : h.lot i = h.lot k) (l1 : o.idxOf i ≤ o.idxOf j) (l2 : o.idxOf j ≤ o.idxOf k) : h.lot j = h.lot i := by
  have nd := f.1.nd
  obtain ⟨ai, bi, ei, ni⟩ := split_at mi
  obtain ⟨aj, bj, ej, nj⟩ := split_at mj
  obtain ⟨ak, bk, ek, nk⟩ := split_at mk
  have li := lot_last f.1 ei
  have lj := lot_last f.1 ej
  have lk := lot_last f.1 ek
  have hi := split_idx ei ni
  have hj := split_idx ej nj
  have hk := split_idx ek nk
  -- all three are beginnings of the row
  have ti : ai ++ [i] = o.take (o.idxOf i + 1) := by
    rw [hi, ei, show ai ++ i :: bi = (ai ++ [i]) ++ bi by simp]
    rw [List.take_append_of_le_length (by simp)]
    rw [List.take_of_length_le (by simp)]
  have tj : aj ++ [j] = o.take (o.idxOf j + 1) := by
    rw [hj, ej, show aj ++ j :: bj = (aj ++ [j]) ++ bj by simp]
    rw [List.take_append_of_le_length (by simp)]
    rw [List.take_of_length_le (by simp)]
  have tk : ak ++ [k] = o.take (o.idxOf k + 1) := by
    rw [hk, ek, show ak ++ k :: bk = (ak ++ [k]) ++ bk by simp]
    rw [List.take_append_of_le_length (by simp)]
    rw [List.take_of_length_le (by simp)]
  rw [ti] at li
  rw [tj] at lj
  rw [tk] at lk
  -- what lies between
  obtain ⟨mid, em⟩ : ∃ mid, o.take (o.idxOf k + 1) = o.take (o.idxOf i + 1) ++ mid := ⟨(o.take (o.idxOf k + 1)).drop (o.idxOf i + 1), by
    have : o.take (o.idxOf i + 1) = (o.take (o.idxOf k + 1)).take (o.idxOf i + 1) := by
      rw [List.take_take, Nat.min_eq_left (by omega)]
    rw [this, List.take_append_drop]⟩
  have no : ∀ x, x ∈ mid → h.put x = false := by
    intro y my
    cases hy : h.put y with
    | false => rfl
    | true =>
      exfalso
      obtain ⟨a, q, b, e1, hq, nb⟩ := lastP_split (o := mid) ⟨y, my, hy⟩
      rw [em, e1, ← List.append_assoc, lastP_of hq nb] at lk
      have lq : lastP h.put none (o.take (o.idxOf i + 1)) = some (q : Int) := by rw [← li, e, lk]
      obtain ⟨a2, q2, b2, e2, _, _, eq⟩ := lastP_some lq
      have qq : q = q2 := by omega
      have ndk : (o.take (o.idxOf k + 1)).Nodup := List.Nodup.sublist (List.take_sublist _ _) nd
      rw [em, List.nodup_append] at ndk
      refine ndk.2.2 q ?_ q ?_ rfl
      · rw [e2, qq]
        exact List.mem_append_right _ List.mem_cons_self
      · rw [e1]
        exact List.mem_append_right _ List.mem_cons_self
  obtain ⟨mid2, em2⟩ : ∃ mid2, o.take (o.idxOf j + 1) = o.take (o.idxOf i + 1) ++ mid2 ∧ ∀ x, x ∈ mid2 → x ∈ mid := by
    refine ⟨(o.take (o.idxOf j + 1)).drop (o.idxOf i + 1), ?_, ?_⟩
    · have : o.take (o.idxOf i + 1) = (o.take (o.idxOf j + 1)).take (o.idxOf i + 1) := by
        rw [List.take_take, Nat.min_eq_left (by omega)]
      rw [this, List.take_append_drop]
    · have em' : mid = (o.take (o.idxOf k + 1)).drop (o.idxOf i + 1) := by
        rw [em]
        have hl : (o.take (o.idxOf i + 1)).length = o.idxOf i + 1 := by
          rw [List.length_take]
          have := List.idxOf_lt_length_iff.mpr mi
          omega
        exact (List.drop_left' hl).symm
      intro x mx
      rw [em']
      have : (o.take (o.idxOf j + 1)) = (o.take (o.idxOf k + 1)).take (o.idxOf j + 1) := by
        rw [List.take_take, Nat.min_eq_left (by omega)]
      rw [this, List.drop_take] at mx
      exact List.mem_of_mem_take mx
  rw [lj, em2.1, lastP_app, ← li, lastP_no fun x m => no x (em2.2 x m)]
theorem full_good {o : List Nat} (f : Full h o) : Good h o := by
  have pm := full_perm f
  have nd := f.1.nd
  have mo : ∀ {i}, i ∈ h.mine → i ∈ o := fun m => pm.mem_iff.mpr m
  refine ⟨pm, fun i j mi mj n a => ?_, fun i p mi hp hl => ?_, fun i j k mi mj mk e l1 l2 => full_block f (mo mi) (mo mj) (mo mk) e l1 l2, fun i j mi mj hl hj => ?_⟩
  · obtain ⟨a1, b1, e, nj⟩ := split_at (mo mj)
    have ia : i ∈ a1 := by
      by_cases z : i ∈ a1
      · exact z
      · have := (f.1.step a1 j b1 e).1 i mi z n
        rw [a] at this
        cases this
    rw [e] at nd ⊢
    exact idx_lt_of_split nd ia
  · obtain ⟨a1, b1, e, ni⟩ := split_at (mo mi)
    rcases (f.1.step a1 i b1 e).2 with z | z
    · rw [hp] at z; cases z
    · rw [hl] at z
      obtain ⟨a2, q, b2, e2, _, _, eq⟩ := lastP_some z.symm
      have pq : p = q := by omega
      rw [e] at nd ⊢
      exact idx_lt_of_split nd (by rw [e2, pq]; exact List.mem_append_right _ List.mem_cons_self)
  · have ne : i ≠ j := fun z => by
      rw [z, h.lp j mj hj] at hl
      cases hl
    by_cases l : o.idxOf i < o.idxOf j
    · exact l
    · exfalso
      have l2 : o.idxOf j < o.idxOf i := by
        have : o.idxOf i ≠ o.idxOf j := fun z => ne (idx_inj (mo mi) (mo mj) z)
        omega
      obtain ⟨a1, b1, e, ni⟩ := split_at (mo mi)
      have nd2 := nd
      rw [e] at nd2
      have ja : j ∈ a1 := mem_of_idx_lt nd2 (by rw [← e]; exact mo mj) (by rw [← e]; exact l2)
      have hi : h.put i = false := by
        cases z : h.put i with
        | false => rfl
        | true => rw [h.lp i mi z] at hl; cases hl
      rcases (f.1.step a1 i b1 e).2 with z | z
      · rw [hi] at z; cases z
      · rw [hl] at z
        rw [lastP_none z.symm j ja] at hj
        cases hj
theorem full_iff {o : List Nat} : Full h o ↔ Good h o := ⟨full_good, good_full⟩
/-- an order made by a key -/
theorem good_sorted {le : Nat → Nat → Bool} (tr : ∀ a b c, le a b = true → le b c = true → le a c = true) (tot : ∀ a b, (le a b || le b a) = true) (anti : ∀ a b, a ∈ h.mine → b ∈ h.mine → le a b = true → le b a = true → a = b)
    (ah : ∀ i j, i ∈ h.mine → j ∈ h.mine → i ≠ j → h.A i j = true → le i j = true) (pf : ∀ i (p : Nat), i ∈ h.mine → p ∈ h.mine → h.put i = false → h.lot i = some (p : Int) → le p i = true)
    (bl : ∀ i j k, i ∈ h.mine → j ∈ h.mine → k ∈ h.mine → h.lot i = h.lot k → le i j = true → le j k = true → h.lot j = h.lot i) (nf : ∀ i j, i ∈ h.mine → j ∈ h.mine → h.lot i = none → h.put j = true → le i j = true) :
    Good h (h.mine.mergeSort le) ∧ ∀ i j, i ∈ h.mine → j ∈ h.mine → (le i j = true ↔ (h.mine.mergeSort le).idxOf i ≤ (h.mine.mergeSort le).idxOf j) := by
  have pm := List.mergeSort_perm h.mine le
  have so := List.pairwise_mergeSort tr tot h.mine
  generalize h.mine.mergeSort le = o at pm so
  have nd : o.Nodup := pm.nodup_iff.mpr h.nd
  have mo : ∀ {i}, i ∈ h.mine → i ∈ o := fun m => pm.mem_iff.mpr m
  have refl : ∀ a, le a a = true := fun a => by
    have := tot a a
    rw [Bool.or_self] at this
    exact this
  have fw : ∀ i j, i ∈ h.mine → j ∈ h.mine → o.idxOf i ≤ o.idxOf j → le i j = true := fun i j mi mj l => by
    have h1 := List.idxOf_lt_length_iff.mpr (mo mi)
    have h2 := List.idxOf_lt_length_iff.mpr (mo mj)
    by_cases e : o.idxOf i = o.idxOf j
    · rw [idx_inj (mo mi) (mo mj) e]; exact refl j
    · have := List.pairwise_iff_getElem.mp so (o.idxOf i) (o.idxOf j) h1 h2 (by omega)
      rw [List.getElem_idxOf h1, List.getElem_idxOf h2] at this
      exact this
  have iff_ : ∀ i j, i ∈ h.mine → j ∈ h.mine → (le i j = true ↔ o.idxOf i ≤ o.idxOf j) := fun i j mi mj => by
    refine ⟨fun l => ?_, fw i j mi mj⟩
    by_cases z : o.idxOf i ≤ o.idxOf j
    · exact z
    · have := anti i j mi mj l (fw j i mj mi (by omega))
      rw [this]
      exact Nat.le_refl _
  have lt : ∀ i j, i ∈ h.mine → j ∈ h.mine → i ≠ j → le i j = true → o.idxOf i < o.idxOf j := fun i j mi mj n l => by
    have l1 := (iff_ i j mi mj).mp l
    have : o.idxOf i ≠ o.idxOf j := fun z => n (idx_inj (mo mi) (mo mj) z)
    omega
  refine ⟨⟨pm, fun i j mi mj n a => lt i j mi mj n (ah i j mi mj n a), fun i p mi hp hl => ?_, fun i j k mi mj mk e l1 l2 => bl i j k mi mj mk e (fw i j mi mj l1) (fw j k mj mk l2), fun i j mi mj hl hj => ?_⟩, iff_⟩
  · obtain ⟨q, eq, mq, hq⟩ := h.lg i mi _ hl
    have pq : p = q := by omega
    subst pq
    exact lt p i mq mi (fun z => by rw [z, hp] at hq; cases hq) (pf i p mi mq hp hl)
  · exact lt i j mi mj (fun z => by rw [z, h.lp j mj hj] at hl; cases hl) (nf i j mi mj hl hj)
end
end OM
end

section
set_option linter.all false
/-! zones: when there is an order, what stands ahead in each -/
namespace OM
structure Tm extends Hst where
  b : Nat → Int
  e : Nat → Option Int
  Ae : ∀ i j, A i j = (match e i with
    | none => false
    | some x => decide (x < b j))
  b0 : ∀ i, i ∈ mine → 0 ≤ b i
  be : ∀ i x, i ∈ mine → e i = some x → b i < x
  /-- the greatest begin, the least end of a lot -/
  B : Option Int → Int
  E : Option Int → Int
  Bmax : ∀ i, i ∈ mine → b i ≤ B (lot i)
  Bmem : ∀ i, i ∈ mine → ∃ k, k ∈ mine ∧ lot k = lot i ∧ b k = B (lot i)
  Emin : ∀ i y, i ∈ mine → e i = some y → E (lot i) ≤ y
  Emem : ∀ i, i ∈ mine → lot i ≠ none → ∃ k, k ∈ mine ∧ lot k = lot i ∧ e k = some (E (lot i))
  En : E none = -1
variable (t : Tm)
def R (x y : Option Int) : Prop := t.E x < t.B y
/-- a lot that is there -/
def Has (x : Option Int) : Prop := ∃ i, i ∈ t.mine ∧ t.lot i = x
def NoFut : Prop := ∀ i (p : Nat), i ∈ t.mine → p ∈ t.mine → t.put i = false → t.lot i = some (p : Int) → t.A i p = false
def NoOdd : Prop := ∀ x y, Has t x → Has t y → x ≠ y → ¬(R t x y ∧ R t y x)
section
variable {t : Tm}
theorem A_some {i j : Nat} (h : t.A i j = true) : ∃ x, t.e i = some x ∧ x < t.b j := by
  rw [t.Ae] at h
  cases z : t.e i with
  | none => rw [z] at h; cases h
  | some x => rw [z] at h; exact ⟨x, rfl, of_decide_eq_true h⟩
theorem A_of {i j : Nat} {x : Int} (h : t.e i = some x) (l : x < t.b j) : t.A i j = true := by
  rw [t.Ae, h]
  exact decide_eq_true l
/-- in an order a lot that ends ahead of another's begin stands ahead of it -/
theorem bef {o : List Nat} (g : Good t.toHst o) {i j : Nat} (mi : i ∈ t.mine) (mj : j ∈ t.mine) (n : t.lot i ≠ t.lot j) (r : R t (t.lot i) (t.lot j)) : o.idxOf i < o.idxOf j := by
  have mo : ∀ {i}, i ∈ t.mine → i ∈ o := fun m => g.pm.mem_iff.mpr m
  by_cases hn : t.lot i = none
  · -- nothing is told: ahead of each put
    cases hl : t.lot j with
    | none => exact absurd (hn.trans hl.symm) n
    | some z =>
      obtain ⟨p, rfl, mp, pp⟩ := t.lg j mj z hl
      have l1 := g.nf i p mi mp hn pp
      cases hj : t.put j with
      | true =>
        have := t.lp j mj hj
        rw [hl] at this
        have pj : p = j := by have := Option.some.inj this; omega
        rw [← pj]
        exact l1
      | false =>
        have := g.pf j p mj hj hl
        omega
  · obtain ⟨a, ma, la, ea⟩ := t.Emem i mi hn
    obtain ⟨c, mc, lc, bc⟩ := t.Bmem j mj
    have hac : t.A a c = true := A_of ea (by rw [bc]; exact r)
    have nac : a ≠ c := fun z => n (by rw [← la, ← lc, z])
    have l := g.ah a c ma mc nac hac
    -- blocks
    by_cases z : o.idxOf i < o.idxOf j
    · exact z
    · exfalso
      have hij : o.idxOf j ≤ o.idxOf i := by omega
      -- a before c; j not behind i
      by_cases h1 : o.idxOf c ≤ o.idxOf i
      · -- a .. c .. i : the lot of a and i is one
        have := g.bl a c i ma mc mi (la.trans rfl) (by omega) h1
        exact n (by rw [← la, ← this, lc])
      · by_cases h2 : o.idxOf j ≤ o.idxOf a
        · -- j .. a .. c
          have := g.bl j a c mj ma mc lc.symm h2 (by omega)
          exact n (by rw [← la, this])
        · -- a .. j .. i
          have := g.bl a j i ma mj mi la (by omega) hij
          exact n (by rw [← la, this])
theorem no_of {o : List Nat} (g : Good t.toHst o) : NoFut t ∧ NoOdd t := by
  refine ⟨fun i p mi mp hp hl => ?_, fun x y ⟨i, mi, ei⟩ ⟨j, mj, ej⟩ n ⟨r1, r2⟩ => ?_⟩
  · cases z : t.A i p with
    | false => rfl
    | true =>
      have l1 := g.pf i p mi hp hl
      have l2 := g.ah i p mi mp (fun w => by rw [w] at l1; omega) z
      omega
  · subst ei ej
    have l1 := bef g mi mj n r1
    have l2 := bef g mj mi (Ne.symm n) r2
    omega
/-! an order by a key -/
def lex (f : Nat → Int) (le : Nat → Nat → Bool) (i j : Nat) : Bool := decide (f i < f j) || (decide (f i = f j) && le i j)
theorem lex_iff {f : Nat → Int} {le : Nat → Nat → Bool} {i j : Nat} : lex f le i j = true ↔ f i < f j ∨ (f i = f j ∧ le i j = true) := by
  unfold lex
  rw [Bool.or_eq_true, Bool.and_eq_true, decide_eq_true_iff, decide_eq_true_iff]
structure TO (le : Nat → Nat → Bool) : Prop where
  tr : ∀ a b c, le a b = true → le b c = true → le a c = true
  tot : ∀ a b, (le a b || le b a) = true
  anti : ∀ a b, le a b = true → le b a = true → a = b
theorem to_lex {f : Nat → Int} {le : Nat → Nat → Bool} (h : TO le) : TO (lex f le) := by
  refine ⟨fun a b c h1 h2 => ?_, fun a b => ?_, fun a b h1 h2 => ?_⟩
  · rw [lex_iff] at h1 h2 ⊢
    rcases h1 with h1 | ⟨h1, h1'⟩ <;> rcases h2 with h2 | ⟨h2, h2'⟩
    · exact .inl (by omega)
    · exact .inl (by omega)
    · exact .inl (by omega)
    · exact .inr ⟨by omega, h.tr a b c h1' h2'⟩
  · rw [Bool.or_eq_true, lex_iff, lex_iff]
    have := h.tot a b
    rw [Bool.or_eq_true] at this
    by_cases z : f a < f b
    · exact .inl (.inl z)
    · by_cases y : f b < f a
      · exact .inr (.inl y)
      · have e : f a = f b := by omega
        rcases this with w | w
        · exact .inl (.inr ⟨e, w⟩)
        · exact .inr (.inr ⟨e.symm, w⟩)
  · rw [lex_iff] at h1 h2
    rcases h1 with h1 | ⟨h1, h1'⟩ <;> rcases h2 with h2 | ⟨h2, h2'⟩
    · omega
    · omega
    · omega
    · exact h.anti a b h1' h2'
theorem to_nat : TO (fun i j => decide (i ≤ j)) := by
  refine ⟨fun a b c h1 h2 => ?_, fun a b => ?_, fun a b h1 h2 => ?_⟩
  · have := of_decide_eq_true h1
    have := of_decide_eq_true h2
    exact decide_eq_true (by omega)
  · rw [Bool.or_eq_true, decide_eq_true_iff, decide_eq_true_iff]
    omega
  · have := of_decide_eq_true h1
    have := of_decide_eq_true h2
    omega
def code : Option Int → Int
  | none => -1
  | some x => x
/-- the key: a part of the lots behind; the sum of a lot; the lot; the put first; a number of each get -/
def leK (t : Tm) (D : Option Int → Bool) (κ : Nat → Int) : Nat → Nat → Bool :=
  lex (fun i => if D (t.lot i) = true then 1 else 0) (lex (fun i => t.E (t.lot i) + t.B (t.lot i)) (lex (fun i => code (t.lot i)) (lex (fun i => if t.put i = true then 0 else 1) (lex κ fun i j => decide (i ≤ j)))))
theorem to_leK (D : Option Int → Bool) (κ : Nat → Int) : TO (leK t D κ) := to_lex (to_lex (to_lex (to_lex (to_lex to_nat))))
/-- the parts of the lots that are behind are closed -/
def Closed (t : Tm) (D : Option Int → Bool) : Prop := ∀ x y, Has t x → Has t y → D x = true → R t x y → D y = true
def Keyed (t : Tm) (κ : Nat → Int) : Prop := ∀ i j, i ∈ t.mine → j ∈ t.mine → t.put i = false → t.put j = false → t.lot i = t.lot j → t.A i j = true → κ i < κ j
theorem le_of_R {D : Option Int → Bool} {κ : Nat → Int} (no : NoOdd t) (cl : Closed t D) {i j : Nat} (mi : i ∈ t.mine) (mj : j ∈ t.mine) (n : t.lot i ≠ t.lot j) (r : R t (t.lot i) (t.lot j)) : leK t D κ i j = true := by
  have hi : Has t (t.lot i) := ⟨i, mi, rfl⟩
  have hj : Has t (t.lot j) := ⟨j, mj, rfl⟩
  unfold leK
  rw [lex_iff]
  have nr : ¬ R t (t.lot j) (t.lot i) := fun z => no _ _ hi hj n ⟨r, z⟩
  unfold R at r nr
  have sum : t.E (t.lot i) + t.B (t.lot i) < t.E (t.lot j) + t.B (t.lot j) := by omega
  have s2 : ∀ le, lex (fun i => t.E (t.lot i) + t.B (t.lot i)) le i j = true := fun le => lex_iff.mpr (.inl sum)
  cases hd : D (t.lot i) with
  | true =>
    have hdj := cl _ _ hi hj hd r
    exact .inr ⟨by rw [hdj], s2 _⟩
  | false =>
    cases hdj : D (t.lot j) with
    | true => exact .inl (by decide)
    | false => exact .inr ⟨rfl, s2 _⟩
theorem R_of_A {i j : Nat} (mi : i ∈ t.mine) (mj : j ∈ t.mine) (a : t.A i j = true) : R t (t.lot i) (t.lot j) := by
  obtain ⟨x, ex, l⟩ := A_some a
  have h1 := t.Emin i x mi ex
  have h2 := t.Bmax j mj
  unfold R
  omega
theorem code_inj {x y : Option Int} (hx : ∀ z, x = some z → 0 ≤ z) (hy : ∀ z, y = some z → 0 ≤ z) (e : code x = code y) : x = y := by
  cases x with
  | none =>
    cases y with
    | none => rfl
    | some y =>
      have := hy y rfl
      have e : (-1 : Int) = y := e
      omega
  | some x =>
    cases y with
    | none =>
      have := hx x rfl
      have e : x = (-1 : Int) := e
      omega
    | some y => exact congrArg some e
theorem lot_nn {i : Nat} (mi : i ∈ t.mine) : ∀ z, t.lot i = some z → 0 ≤ z := fun z e => by
  obtain ⟨p, rfl, _⟩ := t.lg i mi z e
  omega
theorem made {D : Option Int → Bool} {κ : Nat → Int} (nf : NoFut t) (no : NoOdd t) (cl : Closed t D) (ky : Keyed t κ) :
    Good t.toHst (t.mine.mergeSort (leK t D κ)) ∧ ∀ i j, i ∈ t.mine → j ∈ t.mine → (leK t D κ i j = true ↔ (t.mine.mergeSort (leK t D κ)).idxOf i ≤ (t.mine.mergeSort (leK t D κ)).idxOf j) := by
  have T := to_leK (t := t) D κ
  refine good_sorted T.tr T.tot (fun a b _ _ => T.anti a b) ?_ ?_ ?_ ?_
  · intro i j mi mj n a
    by_cases e : t.lot i = t.lot j
    · -- of one lot
      unfold leK
      refine lex_iff.mpr (.inr ⟨by rw [e], lex_iff.mpr (.inr ⟨by rw [e], lex_iff.mpr (.inr ⟨by rw [e], ?_⟩)⟩)⟩)
      cases hi : t.put i with
      | true =>
        cases hj : t.put j with
        | true =>
          have h1 := t.lp i mi hi
          have h2 := t.lp j mj hj
          rw [h1, h2] at e
          have := Option.some.inj e
          exact absurd (by omega) n
        | false => exact lex_iff.mpr (.inl (by rw [if_pos hi, if_neg (by rw [hj]; decide)]; decide))
      | false =>
        cases hj : t.put j with
        | true =>
          have h2 := t.lp j mj hj
          have := nf i j mi mj hi (e.trans h2)
          rw [a] at this
          cases this
        | false => exact lex_iff.mpr (.inr ⟨by rw [if_neg (by rw [hi]; decide), if_neg (by rw [hj]; decide)], lex_iff.mpr (.inl (ky i j mi mj hi hj e a))⟩)
    · exact le_of_R no cl mi mj e (R_of_A mi mj a)
  · intro i p mi mp hi hl
    obtain ⟨q, eq, mq, hq⟩ := t.lg i mi _ hl
    have pq : p = q := by omega
    subst pq
    have e : t.lot p = t.lot i := (t.lp p mq hq).trans hl.symm
    unfold leK
    refine lex_iff.mpr (.inr ⟨by rw [e], lex_iff.mpr (.inr ⟨by rw [e], lex_iff.mpr (.inr ⟨by rw [e], ?_⟩)⟩)⟩)
    exact lex_iff.mpr (.inl (by rw [if_pos hq, if_neg (by rw [hi]; decide)]; decide))
  · intro i j k mi mj mk e l1 l2
    unfold leK at l1 l2
    rw [lex_iff] at l1 l2
    simp only [← e] at l2
    have e1 : (if D (t.lot i) = true then (1 : Int) else 0) = (if D (t.lot j) = true then 1 else 0) := by omega
    rcases l1 with l1 | ⟨_, l1⟩
    · omega
    rcases l2 with l2 | ⟨_, l2⟩
    · omega
    rw [lex_iff] at l1 l2
    simp only [← e] at l2
    rcases l1 with l1 | ⟨s1, l1⟩ <;> rcases l2 with l2 | ⟨s2, l2⟩
    · omega
    · omega
    · omega
    rw [lex_iff] at l1 l2
    simp only [← e] at l2
    have ce : code (t.lot j) = code (t.lot i) := by omega
    exact code_inj (lot_nn mj) (lot_nn mi) ce
  · intro i j mi mj hi hj
    have hl := t.lp j mj hj
    refine le_of_R no cl mi mj (by rw [hi, hl]; exact fun z => nomatch z) ?_
    unfold R
    rw [hi, t.En]
    have := t.b0 j mj
    have := t.Bmax j mj
    omega
/-- the begins are a key -/
theorem keyed_b : Keyed t t.b := fun i j mi mj _ _ _ a => by
  obtain ⟨x, ex, l⟩ := A_some a
  have := t.be i x mi ex
  omega
theorem order_iff : (∃ o, Full t.toHst o) ↔ (NoFut t ∧ NoOdd t) := by
  constructor
  · rintro ⟨o, f⟩
    exact no_of (full_good f)
  · rintro ⟨nf, no⟩
    exact ⟨_, good_full (made (D := fun _ => false) (κ := t.b) nf no (fun x y _ _ z => nomatch z) keyed_b).1⟩
/-- a row of lots that leads on -/
inductive Rt (t : Tm) : Option Int → Option Int → Prop where
  | one {x y : Option Int} : Has t y → R t x y → Rt t x y
  | more {x y z : Option Int} : Rt t x y → Has t z → R t y z → Rt t x z
theorem rt_bef {o : List Nat} (g : Good t.toHst o) (no : NoOdd t) {x y : Option Int} (r : Rt t x y) (hx : Has t x) : x = y ∨ ∀ i j, i ∈ t.mine → j ∈ t.mine → t.lot i = x → t.lot j = y → o.idxOf i < o.idxOf j := by
  induction r with
  | @one y hy r =>
    by_cases e : x = y
    · exact .inl e
    · exact .inr fun i j mi mj ei ej => bef g mi mj (by rw [ei, ej]; exact e) (by rw [ei, ej]; exact r)
  | @more y z rt hz r ih =>
    obtain ⟨k, mk, ek⟩ : Has t y := by
      cases rt with
      | one h _ => exact h
      | more _ h _ => exact h
    by_cases exz : x = z
    · exact .inl exz
    refine .inr fun i j mi mj ei ej => ?_
    rcases ih with e | ih
    · exact bef g mi mj (by rw [ei, ej]; exact exz) (by rw [ei, ej, e]; exact r)
    · by_cases eyz : y = z
      · exact ih i j mi mj ei (ej.trans eyz.symm)
      · have l1 := ih i k mi mk ei ek
        have l2 := bef g mk mj (by rw [ek, ej]; exact eyz) (by rw [ek, ej]; exact r)
        omega
open Classical in
/-- of two lots one stands ahead in each order if a row of lots leads to the other -/
theorem sure_lots (nf : NoFut t) (no : NoOdd t) {i j : Nat} (mi : i ∈ t.mine) (mj : j ∈ t.mine) (n : t.lot i ≠ t.lot j) : (∀ o, Full t.toHst o → o.idxOf i < o.idxOf j) ↔ Rt t (t.lot i) (t.lot j) := by
  constructor
  · intro h
    by_cases z : Rt t (t.lot i) (t.lot j)
    · exact z
    · exfalso
      let D : Option Int → Bool := fun x => decide (x = t.lot i ∨ Rt t (t.lot i) x)
      have cl : Closed t D := fun x y hx hy d r => by
        have d := of_decide_eq_true d
        refine decide_eq_true (.inr ?_)
        rcases d with rfl | d
        · exact .one hy r
        · exact .more d hy r
      obtain ⟨g, iff_⟩ := made (D := D) (κ := t.b) nf no cl keyed_b
      have l := h _ (good_full g)
      have di : D (t.lot i) = true := decide_eq_true (.inl rfl)
      have dj : D (t.lot j) = false := decide_eq_false fun w => by
        rcases w with w | w
        · exact n w.symm
        · exact z w
      have : leK t D t.b j i = true := by
        unfold leK
        exact lex_iff.mpr (.inl (by rw [if_neg (by rw [dj]; decide), if_pos di]; decide))
      have := (iff_ j i mj mi).mp this
      omega
  · intro r o f
    rcases rt_bef (full_good f) no r ⟨i, mi, rfl⟩ with e | h
    · exact absurd e n
    · exact h i j mi mj rfl rfl
/-- of two gets of one lot one stands ahead in each order if it ends ahead of the other -/
theorem sure_gets (nf : NoFut t) (no : NoOdd t) {i j : Nat} (mi : i ∈ t.mine) (mj : j ∈ t.mine) (n : i ≠ j) (pi : t.put i = false) (pj : t.put j = false) (e : t.lot i = t.lot j) : (∀ o, Full t.toHst o → o.idxOf i < o.idxOf j) ↔ t.A i j = true := by
  constructor
  · intro h
    cases z : t.A i j with
    | true => rfl
    | false =>
      exfalso
      -- the one is moved just behind the other
      let κ : Nat → Int := fun k => if k = i then max (2 * t.b i) (2 * t.b j + 1) else 2 * t.b k
      have ky : Keyed t κ := fun a c ma mc _ _ _ hac => by
        obtain ⟨x, ex, l⟩ := A_some hac
        have hb := t.be a x ma ex
        show (if a = i then max (2 * t.b i) (2 * t.b j + 1) else 2 * t.b a) < (if c = i then max (2 * t.b i) (2 * t.b j + 1) else 2 * t.b c)
        by_cases ai : a = i
        · rw [if_pos ai]
          have ci : c ≠ i := fun w => by
            rw [ai, w, t.irr] at hac
            cases hac
          rw [if_neg ci]
          rw [ai] at ex hb
          have nx : ¬ x < t.b j := fun w => by
            rw [A_of ex w] at z
            cases z
          omega
        · rw [if_neg ai]
          by_cases ci : c = i
          · rw [if_pos ci]
            rw [ci] at l
            omega
          · rw [if_neg ci]
            omega
      obtain ⟨g, iff_⟩ := made (D := fun _ => false) (κ := κ) nf no (fun x y _ _ z => nomatch z) ky
      have l := h _ (good_full g)
      by_cases bj : 2 * t.b i < 2 * t.b j + 1
      · have : leK t (fun _ => false) κ j i = true := by
          unfold leK
          refine lex_iff.mpr (.inr ⟨rfl, lex_iff.mpr (.inr ⟨by rw [e], lex_iff.mpr (.inr ⟨by rw [e], lex_iff.mpr (.inr ⟨by rw [if_neg (by rw [pj]; decide), if_neg (by rw [pi]; decide)], lex_iff.mpr (.inl ?_)⟩)⟩)⟩)⟩)
          show (if j = i then max (2 * t.b i) (2 * t.b j + 1) else 2 * t.b j) < (if i = i then max (2 * t.b i) (2 * t.b j + 1) else 2 * t.b i)
          rw [if_neg (Ne.symm n), if_pos rfl]
          omega
        have := (iff_ j i mj mi).mp this
        omega
      · have : leK t (fun _ => false) κ j i = true := by
          unfold leK
          refine lex_iff.mpr (.inr ⟨rfl, lex_iff.mpr (.inr ⟨by rw [e], lex_iff.mpr (.inr ⟨by rw [e], lex_iff.mpr (.inr ⟨by rw [if_neg (by rw [pj]; decide), if_neg (by rw [pi]; decide)], lex_iff.mpr (.inl ?_)⟩)⟩)⟩)⟩)
          show (if j = i then max (2 * t.b i) (2 * t.b j + 1) else 2 * t.b j) < (if i = i then max (2 * t.b i) (2 * t.b j + 1) else 2 * t.b i)
          rw [if_neg (Ne.symm n), if_pos rfl]
          omega
        have := (iff_ j i mj mi).mp this
        omega
  · intro a o f
    exact (full_good f).ah i j mi mj n a
/-- a put stands ahead of all of its lot -/
theorem sure_put {i j : Nat} (mi : i ∈ t.mine) (mj : j ∈ t.mine) (n : i ≠ j) (pi : t.put i = true) (e : t.lot i = t.lot j) {o : List Nat} (f : Full t.toHst o) : o.idxOf i < o.idxOf j := by
  have hl := (t.lp i mi pi).symm.trans e
  have pj : t.put j = false := by
    cases z : t.put j with
    | false => rfl
    | true =>
      have := t.lp j mj z
      rw [← hl] at this
      exact absurd (by have := Option.some.inj this; omega) n
  exact (full_good f).pf j i mj pj hl.symm
end
end OM
end

section
set_option Elab.async false
set_option linter.all false
set_option maxRecDepth 100000
set_option maxHeartbeats 4000000
/-! a history as the orders' mathematics sees it -/
namespace K36
open PySem L2 KZ
def bI (rs : List Row) (i : Nat) : Int := match rs[i]? with
  | some r => r.b
  | none => 0
def eI (rs : List Row) (i : Nat) : Option Int := match rs[i]? with
  | some r => r.e
  | none => none
def lotI (rs : List Row) (i : Nat) : Option Int := match rs[i]? with
  | some r => lotOf r i
  | none => none
def aI (rs : List Row) (i j : Nat) : Bool := match eI rs i with
  | none => false
  | some x => decide (x < bI rs j)
theorem bI_at {rs : List Row} {i : Nat} {r : Row} (h : rs[i]? = some r) : bI rs i = r.b := by unfold bI; rw [h]
theorem eI_at {rs : List Row} {i : Nat} {r : Row} (h : rs[i]? = some r) : eI rs i = r.e := by unfold eI; rw [h]
theorem lotI_at {rs : List Row} {i : Nat} {r : Row} (h : rs[i]? = some r) : lotI rs i = lotOf r i := by unfold lotI; rw [h]
theorem put_at {rs : List Row} {i : Nat} {r : Row} (h : rs[i]? = some r) : isPutAt rs i = !r.g := by unfold isPutAt; rw [h]
theorem max_in : ∀ (bs : List Int), bs ≠ [] → ∃ m ∈ bs, ∀ y ∈ bs, y ≤ m
  | [], h => absurd rfl h
  | [b], _ => ⟨b, List.mem_cons_self, fun y m => by rw [List.mem_singleton.mp m]; exact Int.le_refl _⟩
  | b :: c :: bs, _ => by
    obtain ⟨m, mm, mu⟩ := max_in (c :: bs) (List.cons_ne_nil _ _)
    by_cases h : b ≤ m
    · exact ⟨m, List.mem_cons_of_mem _ mm, fun y my => (List.mem_cons.mp my).elim (fun e => e ▸ h) (mu y)⟩
    · exact ⟨b, List.mem_cons_self, fun y my => (List.mem_cons.mp my).elim (fun e => e ▸ Int.le_refl _) fun z => Int.le_trans (mu y z) (by omega)⟩
theorem min_in : ∀ (bs : List Int), bs ≠ [] → ∃ m ∈ bs, ∀ y ∈ bs, m ≤ y
  | [], h => absurd rfl h
  | [b], _ => ⟨b, List.mem_cons_self, fun y m => by rw [List.mem_singleton.mp m]; exact Int.le_refl _⟩
  | b :: c :: bs, _ => by
    obtain ⟨m, mm, mu⟩ := min_in (c :: bs) (List.cons_ne_nil _ _)
    by_cases h : m ≤ b
    · exact ⟨m, List.mem_cons_of_mem _ mm, fun y my => (List.mem_cons.mp my).elim (fun e => e ▸ h) (mu y)⟩
    · exact ⟨b, List.mem_cons_self, fun y my => (List.mem_cons.mp my).elim (fun e => e ▸ Int.le_refl _) fun z => Int.le_trans (by omega) (mu y z)⟩
section
variable {rs : List Row}
theorem part_row {i : Nat} (h : i ∈ partsOf rs) : ∃ r, rs[i]? = some r := by
  obtain ⟨r, e, _⟩ := mem_parts.mp h
  exact ⟨r, e⟩
theorem in_mine {i : Nat} {r : Row} (h : i ∈ partsOf rs) (e : rs[i]? = some r) : r ∈ mineR rs (lotOf r i) (partsOf rs) := mem_mine.mpr ⟨i, h, e, rfl⟩
theorem B_spec {k : Option Int} (h : hasM rs k = true) : (∃ i ∈ partsOf rs, lotI rs i = k ∧ bI rs i = (zoneM rs k).2.2) ∧ ∀ i ∈ partsOf rs, lotI rs i = k → bI rs i ≤ (zoneM rs k).2.2 := by
  obtain ⟨r0, m0⟩ := hasM_iff.mp h
  obtain ⟨m, mm, mu⟩ := max_in ((mineR rs k (partsOf rs)).map (·.b)) (fun z => by
    have : r0.b ∈ (mineR rs k (partsOf rs)).map (·.b) := List.mem_map.mpr ⟨r0, m0, rfl⟩
    rw [z] at this
    cases this)
  have e : (zoneM rs k).2.2 = m := by
    show (accB none ((mineR rs k (partsOf rs)).map (·.b))).getD 0 = m
    rw [accB_max mm mu]
    rfl
  rw [e]
  refine ⟨?_, fun i mi ei => ?_⟩
  · obtain ⟨r, mr, rfl⟩ := List.mem_map.mp mm
    obtain ⟨i, mi, er, ek⟩ := mem_mine.mp mr
    exact ⟨i, mi, by rw [lotI_at er, ek], bI_at er⟩
  · obtain ⟨r, er⟩ := part_row mi
    rw [lotI_at er] at ei
    rw [bI_at er]
    exact mu _ (List.mem_map.mpr ⟨r, ei ▸ in_mine mi er, rfl⟩)
theorem E_spec {k : Option Int} (h : hasM rs k = true) (nk : k ≠ none) : (∃ i ∈ partsOf rs, lotI rs i = k ∧ eI rs i = some (zoneM rs k).2.1) ∧ ∀ i ∈ partsOf rs, lotI rs i = k → ∀ y, eI rs i = some y → (zoneM rs k).2.1 ≤ y := by
  obtain ⟨m, mm, mu⟩ := min_in ((mineR rs k (partsOf rs)).filterMap (·.e)) (ends_some h)
  have e : (zoneM rs k).2.1 = m := by
    show (if k = none then -1 else (accE none ((mineR rs k (partsOf rs)).filterMap (·.e))).getD 0) = m
    rw [if_neg nk, accE_min mm mu]
    rfl
  rw [e]
  refine ⟨?_, fun i mi ei y ey => ?_⟩
  · obtain ⟨r, mr, er2⟩ := List.mem_filterMap.mp mm
    obtain ⟨i, mi, er, ek⟩ := mem_mine.mp mr
    exact ⟨i, mi, by rw [lotI_at er, ek], by rw [eI_at er, er2]⟩
  · obtain ⟨r, er⟩ := part_row mi
    rw [lotI_at er] at ei
    rw [eI_at er] at ey
    exact mu _ (List.mem_filterMap.mpr ⟨r, ei ▸ in_mine mi er, ey⟩)
theorem has_lot {i : Nat} (mi : i ∈ partsOf rs) : hasM rs (lotI rs i) = true := by
  obtain ⟨r, er⟩ := part_row mi
  rw [lotI_at er]
  exact hasM_iff.mpr ⟨r, in_mine mi er⟩
variable (rs)
def tmOf (ok : ∀ r ∈ rs, r.Ok) (nb : firstBad rs = none) : OM.Tm where
  mine := partsOf rs
  A := aI rs
  put := isPutAt rs
  lot := lotI rs
  nd := by unfold partsOf; exact List.Pairwise.filter _ List.nodup_range
  lp := fun i mi p => by
    obtain ⟨r, er⟩ := part_row mi
    rw [put_at er] at p
    rw [lotI_at er]
    unfold lotOf
    rw [if_neg (by intro z; rw [z] at p; cases p)]
  lg := fun i mi x ex => by
    obtain ⟨r, er⟩ := part_row mi
    rw [lotI_at er] at ex
    unfold lotOf at ex
    cases hg : r.g with
    | false =>
      rw [hg, if_neg (by decide)] at ex
      exact ⟨i, (Option.some.inj ex).symm, mi, by rw [put_at er, hg]; rfl⟩
    | true =>
      rw [hg, if_pos rfl] at ex
      obtain ⟨k, s, ek, es, gs⟩ := told_at ok nb er ex
      refine ⟨k, ek, ?_, by rw [put_at es, gs]; rfl⟩
      obtain ⟨_, t2, _⟩ := (ok r (List.mem_of_getElem? er)).tg x ex
      refine mem_parts.mpr ⟨s, es, ?_⟩
      have : isTold rs (some (k : Int)) = true := List.any_eq_true.mpr ⟨r, List.mem_of_getElem? er, by
        unfold tells
        rw [hg, ex, ek]
        cases he : r.e with
        | none => exact absurd he t2
        | some _ => simp⟩
      rw [gs, this]
      cases s.e.isSome <;> rfl
  irr := fun i => by
    unfold aI
    cases he : eI rs i with
    | none => rfl
    | some x =>
      unfold eI at he
      cases hr : rs[i]? with
      | none => rw [hr] at he; cases he
      | some r =>
        rw [hr] at he
        have := (ok r (List.mem_of_getElem? hr)).eb x he
        show decide (x < bI rs i) = false
        rw [bI_at hr]
        exact decide_eq_false (by omega)
  b := bI rs
  e := eI rs
  Ae := fun _ _ => rfl
  b0 := fun i mi => by
    obtain ⟨r, er⟩ := part_row mi
    rw [bI_at er]
    exact (ok r (List.mem_of_getElem? er)).b0
  be := fun i x mi ex => by
    obtain ⟨r, er⟩ := part_row mi
    rw [eI_at er] at ex
    rw [bI_at er]
    exact (ok r (List.mem_of_getElem? er)).eb x ex
  B := fun k => (zoneM rs k).2.2
  E := fun k => (zoneM rs k).2.1
  Bmax := fun i mi => (B_spec (has_lot mi)).2 i mi rfl
  Bmem := fun i mi => (B_spec (has_lot mi)).1
  Emin := fun i y mi ey => by
    by_cases h : lotI rs i = none
    · rw [h]
      obtain ⟨r, er⟩ := part_row mi
      rw [eI_at er] at ey
      have h1 := (ok r (List.mem_of_getElem? er)).eb y ey
      have h2 := (ok r (List.mem_of_getElem? er)).b0
      show (-1 : Int) ≤ y
      omega
    · exact (E_spec (has_lot mi) h).2 i mi rfl y ey
  Emem := fun i mi n => (E_spec (has_lot mi) n).1
  En := rfl
end
end K36
end

section
set_option Elab.async false
set_option linter.all false
set_option maxRecDepth 100000
set_option maxHeartbeats 4000000
/-! zones and orders, as the mathematics sees them -/
namespace K36
open PySem L2 KZ
section
variable {rs : List Row}
theorem zoneM_key (k : Option Int) : (zoneM rs k).1 = k := rfl
theorem zones_iff (ok : ∀ r ∈ rs, r.Ok) (nb : firstBad rs = none) {u : Zn} : u ∈ zonesOf rs ↔ ∃ i ∈ partsOf rs, u = zoneM rs (lotI rs i) := by
  constructor
  · intro m
    rw [zones_eq ok nb] at m
    obtain ⟨k, mk, rfl⟩ := List.mem_map.mp m
    obtain ⟨r, mr⟩ := hasM_iff.mp (List.mem_filter.mp mk).2
    obtain ⟨i, mi, er, ek⟩ := mem_mine.mp mr
    exact ⟨i, mi, by rw [lotI_at er, ek]⟩
  · rintro ⟨i, mi, rfl⟩
    obtain ⟨r, er⟩ := part_row mi
    have := zones_mem mi er
    unfold zoneOf at this
    have hm := has_lot mi
    rw [lotI_at er] at hm ⊢
    rwa [zone_eq ok hm] at this
theorem zones_keys (ok : ∀ r ∈ rs, r.Ok) (nb : firstBad rs = none) : ((zonesOf rs).map (·.1)).Nodup := by
  rw [zones_eq ok nb, List.map_map]
  have e : ((fun z : Zn => z.1) ∘ zoneM rs) = id := rfl
  rw [e, List.map_id]
  refine List.Pairwise.filter _ (List.nodup_cons.mpr ⟨fun m => ?_, ?_⟩)
  · obtain ⟨_, _, e⟩ := List.mem_map.mp m
    cases e
  · refine List.Pairwise.map _ (fun a b h e => h ?_) List.nodup_range
    exact Int.ofNat.inj (Option.some.inj e)
theorem fut_iff (ok : ∀ r ∈ rs, r.Ok) (nb : firstBad rs = none) : earlyOf rs = [] ↔ OM.NoFut (tmOf rs ok nb) := by
  constructor
  · intro h i p mi mp pi lt
    obtain ⟨r, er⟩ := part_row (show i ∈ partsOf rs from mi)
    obtain ⟨s, es⟩ := part_row (show p ∈ partsOf rs from mp)
    have pi : isPutAt rs i = false := pi
    have lt : lotI rs i = some (p : Int) := lt
    rw [put_at er] at pi
    rw [lotI_at er] at lt
    unfold lotOf at lt
    have hg : r.g = true := by cases hg : r.g with
      | true => rfl
      | false => rw [hg] at pi; cases pi
    rw [if_pos hg] at lt
    have ne : isEarly rs i = false := by
      cases c : isEarly rs i with
      | false => rfl
      | true =>
        have : i ∈ earlyOf rs := List.mem_filter.mpr ⟨List.mem_range.mpr (List.getElem?_eq_some_iff.mp er).1, c⟩
        rw [h] at this
        cases this
    rw [isEarly_of er lt es] at ne
    show aI rs i p = false
    unfold aI
    rw [eI_at er]
    unfold ahead at ne
    cases he : r.e with
    | none => rfl
    | some x => rw [he] at ne; rw [bI_at es]; exact ne
  · intro h
    refine List.filter_eq_nil_iff.mpr fun i mi c => ?_
    have hi := List.mem_range.mp mi
    have er : rs[i]? = some rs[i] := List.getElem?_eq_getElem hi
    generalize rs[i] = r at er
    cases ht : r.t with
    | none => rw [isEarly_none er ht] at c; cases c
    | some t =>
      obtain ⟨k, s, rfl, es, gs⟩ := told_at ok nb er ht
      rw [isEarly_of er ht es] at c
      obtain ⟨rg, re, _⟩ := (ok r (List.mem_of_getElem? er)).tg _ ht
      have mi2 : i ∈ partsOf rs := mem_parts.mpr ⟨r, er, by
        cases he : r.e with
        | none => exact absurd he re
        | some _ => rfl⟩
      have lt : lotI rs i = some (k : Int) := by
        rw [lotI_at er]
        unfold lotOf
        rw [if_pos rg, ht]
      obtain ⟨p, ep, mp, _⟩ := (tmOf rs ok nb).lg i mi2 _ lt
      have ekp : k = p := Int.ofNat.inj ep
      have := h i k mi2 (ekp ▸ mp) (show isPutAt rs i = false by rw [put_at er, rg]; rfl) lt
      have this : aI rs i k = false := this
      unfold aI at this
      rw [eI_at er, bI_at es] at this
      unfold ahead at c
      cases he : r.e with
      | none => rw [he] at c; cases c
      | some x =>
        rw [he] at c this
        have c : decide (x < s.b) = true := c
        have this : decide (x < s.b) = false := this
        rw [c] at this
        cases this
theorem odd_iff (ok : ∀ r ∈ rs, r.Ok) (nb : firstBad rs = none) : (∀ i, oddAt (zonesOf rs) i = []) ↔ OM.NoOdd (tmOf rs ok nb) := by
  have nd := zones_keys ok nb
  constructor
  · rintro h x y ⟨i, mi, rfl⟩ ⟨j, mj, rfl⟩ ne ⟨r1, r2⟩
    have r1 : (zoneM rs (lotI rs i)).2.1 < (zoneM rs (lotI rs j)).2.2 := r1
    have r2 : (zoneM rs (lotI rs j)).2.1 < (zoneM rs (lotI rs i)).2.2 := r2
    have ne : lotI rs i ≠ lotI rs j := ne
    obtain ⟨a, ha, ea⟩ := List.mem_iff_getElem.mp ((zones_iff ok nb).mpr ⟨i, mi, rfl⟩)
    obtain ⟨c, hc, ec⟩ := List.mem_iff_getElem.mp ((zones_iff ok nb).mpr ⟨j, mj, rfl⟩)
    have key : ∀ (p q : Nat) (hp : p < (zonesOf rs).length) (hq : q < (zonesOf rs).length), p < q → (zonesOf rs)[p].2.1 < (zonesOf rs)[q].2.2 → (zonesOf rs)[q].2.1 < (zonesOf rs)[p].2.2 → False := fun p q hp hq l a1 a2 => by
      have o := h q
      unfold oddAt at o
      rw [List.getElem?_eq_getElem hq] at o
      have m : (zonesOf rs)[p] ∈ (zonesOf rs).take q := List.mem_take_iff_getElem.mpr ⟨p, by omega, rfl⟩
      have : (zonesOf rs)[p].1 ∈ (((zonesOf rs).take q).filter (oddB (zonesOf rs)[q])).map (·.1) := List.mem_map.mpr ⟨_, List.mem_filter.mpr ⟨m, by
        unfold oddB
        rw [decide_eq_true a1, decide_eq_true a2]
        rfl⟩, rfl⟩
      rw [show (((zonesOf rs).take q).filter (oddB (zonesOf rs)[q])).map (·.1) = [] from o] at this
      cases this
    rcases Nat.lt_trichotomy a c with l | l | l
    · exact key a c ha hc l (by rw [ea, ec]; exact r1) (by rw [ea, ec]; exact r2)
    · subst l
      rw [ea] at ec
      exact ne (congrArg (·.1) ec)
    · exact key c a hc ha l (by rw [ea, ec]; exact r2) (by rw [ea, ec]; exact r1)
  · intro h i
    unfold oddAt
    cases hz : (zonesOf rs)[i]? with
    | none => rfl
    | some z =>
      show (((zonesOf rs).take i).filter (oddB z)).map (·.1) = []
      rw [List.filter_eq_nil_iff.mpr, List.map_nil]
      intro u mu c
      obtain ⟨j, hj, eu⟩ := List.mem_take_iff_getElem.mp mu
      have hi := (List.getElem?_eq_some_iff.mp hz).1
      have ez := (List.getElem?_eq_some_iff.mp hz).2
      have hjl : j < i := by omega
      obtain ⟨a, ma, e1⟩ := (zones_iff ok nb).mp (List.mem_of_mem_take mu)
      obtain ⟨b, mb, e2⟩ := (zones_iff ok nb).mp (List.mem_of_getElem? hz)
      have ne : lotI rs a ≠ lotI rs b := fun e => by
        have e12 : u.1 = z.1 := by rw [e1, e2, zoneM_key, zoneM_key, e]
        have hj2 : j < ((zonesOf rs).map (·.1)).length := by rw [List.length_map]; omega
        have hi2 : i < ((zonesOf rs).map (·.1)).length := by rw [List.length_map]; omega
        have := (List.getElem_inj (h₀ := hj2) (h₁ := hi2) nd).mp (by rw [List.getElem_map, List.getElem_map, eu, ez, e12])
        omega
      unfold oddB at c
      rw [Bool.and_eq_true] at c
      have c1 := of_decide_eq_true c.1
      have c2 := of_decide_eq_true c.2
      rw [e1, e2] at c1 c2
      exact h (lotI rs a) (lotI rs b) ⟨a, ma, rfl⟩ ⟨b, mb, rfl⟩ ne ⟨c1, c2⟩
theorem orderly_iff (ok : ∀ r ∈ rs, r.Ok) (nb : firstBad rs = none) : Orderly rs ↔ (OM.NoFut (tmOf rs ok nb) ∧ OM.NoOdd (tmOf rs ok nb)) := by
  unfold Orderly
  rw [fut_iff ok nb, odd_iff ok nb]
theorem leads_rt (ok : ∀ r ∈ rs, r.Ok) (nb : firstBad rs = none) {x y : Option Int} (hx : OM.Has (tmOf rs ok nb) x) (hy : OM.Has (tmOf rs ok nb) y) : Leads (zonesOf rs) (zoneM rs x) (zoneM rs y) ↔ OM.Rt (tmOf rs ok nb) x y := by
  constructor
  · rintro ⟨u, zr, l⟩
    have key : ∃ k, u = zoneM rs k ∧ (k = x ∨ OM.Rt (tmOf rs ok nb) x k) := by
      clear l
      induction zr with
      | one => exact ⟨x, rfl, .inl rfl⟩
      | @more u v _ mv lt ih =>
        obtain ⟨k, rfl, hk⟩ := ih
        obtain ⟨i, mi, rfl⟩ := (zones_iff ok nb).mp mv
        have hv : OM.Has (tmOf rs ok nb) (lotI rs i) := ⟨i, mi, rfl⟩
        refine ⟨lotI rs i, rfl, .inr ?_⟩
        rcases hk with rfl | hk
        · exact .one hv lt
        · exact .more hk hv lt
    obtain ⟨k, rfl, rfl | hk⟩ := key
    · exact .one hy l
    · exact .more hk hy l
  · intro r
    have key : ∀ z, OM.Rt (tmOf rs ok nb) x z → ∃ u, ZR (zonesOf rs) (zoneM rs x) u ∧ u.2.1 < (zoneM rs z).2.2 := fun z r => by
      induction r with
      | one _ r => exact ⟨_, .one, r⟩
      | @more y z rt _ r ih =>
        obtain ⟨u, zr, l⟩ := ih
        have hy' : OM.Has (tmOf rs ok nb) y := by
          cases rt with
          | one h _ => exact h
          | more _ h _ => exact h
        obtain ⟨i, mi, e⟩ := hy'
        exact ⟨zoneM rs y, .more zr ((zones_iff ok nb).mpr ⟨i, mi, by rw [show lotI rs i = y from e]⟩) l, r⟩
    exact key y r
end
end K36
end

section
set_option Elab.async false
set_option linter.all false
set_option maxRecDepth 100000
set_option maxHeartbeats 4000000
/-! the law's orders are all orders; what is sure is so in each of them -/
namespace K36
open PySem L2 KZ
theorem snoc_split {α : Type} {o a b : List α} {k x : α} (e : o ++ [k] = a ++ x :: b) : (b = [] ∧ a = o ∧ x = k) ∨ ∃ b', b = b' ++ [k] ∧ o = a ++ x :: b' := by
  rcases List.eq_nil_or_concat b with rfl | ⟨b', z, rfl⟩
  · obtain ⟨e1, e2⟩ := List.append_inj' e rfl
    exact .inl ⟨rfl, e1.symm, (List.cons.inj e2).1.symm⟩
  · have e' : o ++ [k] = (a ++ x :: b') ++ [z] := by rw [e]; simp
    obtain ⟨e1, e2⟩ := List.append_inj' e' rfl
    exact .inr ⟨b', by rw [(List.cons.inj e2).1]; simp, e1⟩
theorem ok_snoc {h : OM.Hst} {o : List Nat} {k : Nat} : OM.OkSeq h (o ++ [k]) ↔ OM.OkSeq h o ∧ k ∈ h.mine ∧ k ∉ o ∧ (∀ i, i ∈ h.mine → i ∉ o → i ≠ k → h.A i k = false) ∧ (h.put k = true ∨ h.lot k = OM.lastP h.put none o) := by
  constructor
  · intro s
    have nd := s.nd
    rw [List.nodup_append] at nd
    refine ⟨⟨nd.1, fun i m => s.sub i (List.mem_append_left _ m), fun a x b e => ?_⟩, s.sub k (List.mem_append_right _ List.mem_cons_self), fun m => nd.2.2 k m k List.mem_cons_self rfl, ?_⟩
    · exact s.step a x (b ++ [k]) (by rw [e]; simp)
    · exact s.step o k [] rfl
  · rintro ⟨s, mk, nk, s1, s2⟩
    refine ⟨?_, fun i m => ?_, fun a x b e => ?_⟩
    · rw [List.nodup_append]
      exact ⟨s.nd, by simp, fun a ma b mb e => nk (by rw [← List.mem_singleton.mp mb, ← e]; exact ma)⟩
    · rcases List.mem_append.mp m with m | m
      · exact s.sub i m
      · rw [List.mem_singleton.mp m]
        exact mk
    · rcases snoc_split e with ⟨rfl, rfl, rfl⟩ | ⟨b', rfl, e2⟩
      · exact ⟨s1, s2⟩
      · exact s.step a x b' e2
section
variable {rs : List Row}
theorem any_in (o : List Nat) (i : Nat) : (o.any fun j => decide (j = i)) = decide (i ∈ o) := by
  by_cases h : i ∈ o
  · rw [decide_eq_true h]
    exact List.any_eq_true.mpr ⟨i, h, decide_eq_true rfl⟩
  · rw [decide_eq_false h]
    exact List.any_eq_false.mpr fun j mj z => h (of_decide_eq_true z ▸ mj)
theorem mem_left {mine o : List Nat} {i : Nat} : i ∈ leftOf mine o ↔ i ∈ mine ∧ i ∉ o := by
  unfold leftOf
  rw [List.mem_filter, any_in]
  simp
theorem aheadI_aI {i k : Nat} {r : Row} (ek : rs[k]? = some r) : aheadI rs i k = aI rs i k := by
  unfold aheadI aI
  cases hi : rs[i]? with
  | none => unfold eI; rw [hi]
  | some s => rw [ek, eI_at hi, bI_at ek]; rfl
theorem mem_line (ok : ∀ r ∈ rs, r.Ok) (nb : firstBad rs = none) : ∀ (k : Nat) (o : List Nat) (last : Option Int), (o, last) ∈ lineOf rs (partsOf rs) k ↔ OM.OkSeq (tmOf rs ok nb).toHst o ∧ o.length = k ∧ last = OM.lastP (isPutAt rs) none o
  | 0, o, last => by
    constructor
    · intro m
      cases (show (o, last) = ([], none) from List.mem_singleton.mp m)
      exact ⟨⟨List.nodup_nil, fun i m => (by cases m), fun a x b e => by cases a <;> cases e⟩, rfl, rfl⟩
    · rintro ⟨_, l, rfl⟩
      have : o = [] := List.length_eq_zero_iff.mp l
      subst this
      exact List.mem_singleton.mpr rfl
  | k + 1, o', last' => by
    show (o', last') ∈ (lineOf rs (partsOf rs) k).flatMap (nextOf rs (partsOf rs)) ↔ _
    have turn : ∀ (o : List Nat) (j : Nat) (last : Option Int), last = OM.lastP (isPutAt rs) none o → ((j ∈ leftOf (partsOf rs) o ∧ okNext rs (leftOf (partsOf rs) o) last j = true) ↔
        (j ∈ partsOf rs ∧ j ∉ o ∧ (∀ i, i ∈ partsOf rs → i ∉ o → i ≠ j → aI rs i j = false) ∧ (isPutAt rs j = true ∨ lotI rs j = OM.lastP (isPutAt rs) none o))) := fun o j last el => by
      rw [mem_left]
      constructor
      · rintro ⟨⟨mj, nj⟩, c⟩
        obtain ⟨r, er⟩ := part_row mj
        unfold okNext at c
        rw [Bool.and_eq_true, fits_eq er] at c
        refine ⟨mj, nj, fun i mi ni ne => ?_, ?_⟩
        · cases z : aI rs i j with
          | false => rfl
          | true =>
            have : i ∈ earlyIn rs (leftOf (partsOf rs) o) j := List.mem_filter.mpr ⟨mem_left.mpr ⟨mi, ni⟩, by rw [aheadI_aI er, z, decide_eq_false ne]; rfl⟩
            rw [List.isEmpty_iff.mp c.1] at this
            cases this
        · rw [put_at er, lotI_at er, ← el]
          unfold lotOf
          cases hg : r.g with
          | false => exact .inl rfl
          | true =>
            refine .inr ?_
            rw [if_pos rfl]
            have c2 := c.2
            rw [hg] at c2
            exact of_decide_eq_true c2
      · rintro ⟨mj, nj, c1, c2⟩
        obtain ⟨r, er⟩ := part_row mj
        refine ⟨⟨mj, nj⟩, ?_⟩
        unfold okNext
        rw [Bool.and_eq_true, fits_eq er]
        refine ⟨List.isEmpty_iff.mpr (List.filter_eq_nil_iff.mpr fun i mi c => ?_), ?_⟩
        · rw [Bool.and_eq_true, aheadI_aI er] at c
          obtain ⟨mi1, mi2⟩ := mem_left.mp mi
          rw [c1 i mi1 mi2 (fun e => by rw [decide_eq_true e] at c; cases c.1)] at c
          cases c.2
        · rw [put_at er, lotI_at er, ← el] at c2
          unfold lotOf at c2
          cases hg : r.g with
          | false => rfl
          | true =>
            rw [hg, if_pos rfl] at c2
            rcases c2 with c2 | c2
            · cases c2
            · exact decide_eq_true c2
    have lst : ∀ (o : List Nat) (j : Nat), j ∈ partsOf rs → lastB' rs j (OM.lastP (isPutAt rs) none o) = OM.lastP (isPutAt rs) none (o ++ [j]) := fun o j mj => by
      obtain ⟨r, er⟩ := part_row mj
      rw [OM.lastP_app, OM.lastP_cons, last_eq er, put_at er]
      cases r.g <;> rfl
    constructor
    · intro m
      obtain ⟨⟨o, last⟩, mo, mn⟩ := List.mem_flatMap.mp m
      obtain ⟨s, l, el⟩ := (mem_line ok nb k o last).mp mo
      unfold nextOf nextIn at mn
      obtain ⟨j, mj, e⟩ := List.mem_map.mp mn
      obtain ⟨mj1, mj2⟩ := List.mem_filter.mp mj
      obtain ⟨t1, t2, t3, t4⟩ := (turn o j last el).mp ⟨mj1, mj2⟩
      cases e
      refine ⟨ok_snoc.mpr ⟨s, t1, t2, t3, t4⟩, ?_, ?_⟩
      · rw [List.length_append, l]; rfl
      · show lastB' rs j last = _
        rw [el]
        exact lst o j t1
    · rintro ⟨s, l, el⟩
      rcases List.eq_nil_or_concat o' with rfl | ⟨o, j, rfl⟩
      · cases l
      · rw [List.concat_eq_append] at s l el ⊢
        obtain ⟨s0, t1, t2, t3, t4⟩ := ok_snoc.mp s
        have l0 : o.length = k := by rw [List.length_append] at l; simpa using l
        refine List.mem_flatMap.mpr ⟨(o, OM.lastP (isPutAt rs) none o), (mem_line ok nb k o _).mpr ⟨s0, l0, rfl⟩, ?_⟩
        obtain ⟨m1, m2⟩ := (turn o j _ rfl).mpr ⟨t1, t2, t3, t4⟩
        unfold nextOf nextIn
        exact List.mem_map.mpr ⟨j, List.mem_filter.mpr ⟨m1, m2⟩, by rw [el, ← lst o j t1]⟩
theorem mem_orders (ok : ∀ r ∈ rs, r.Ok) (nb : firstBad rs = none) {o : List Nat} : o ∈ ordersOf rs ↔ OM.Full (tmOf rs ok nb).toHst o := by
  unfold ordersOf OM.Full
  constructor
  · intro m
    obtain ⟨⟨o', last⟩, mo, rfl⟩ := List.mem_map.mp m
    obtain ⟨s, l, _⟩ := (mem_line ok nb _ o' last).mp mo
    exact ⟨s, l⟩
  · rintro ⟨s, l⟩
    exact List.mem_map.mpr ⟨(o, _), (mem_line ok nb _ o _).mpr ⟨s, l, rfl⟩, rfl⟩
theorem orders_some (ok : ∀ r ∈ rs, r.Ok) (nb : firstBad rs = none) : ordersOf rs ≠ [] ↔ Orderly rs := by
  rw [orderly_iff ok nb, ← OM.order_iff]
  constructor
  · intro h
    obtain ⟨o, mo⟩ := List.exists_mem_of_ne_nil _ h
    exact ⟨o, (mem_orders ok nb).mp mo⟩
  · rintro ⟨o, f⟩ e
    have := (mem_orders ok nb).mpr f
    rw [e] at this
    cases this
theorem sure_all (ok : ∀ r ∈ rs, r.Ok) (nb : firstBad rs = none) (od : Orderly rs) {i j : Nat} (mi : i ∈ partsOf rs) (mj : j ∈ partsOf rs) : Sure rs i j ↔ (i ≠ j ∧ ∀ o ∈ ordersOf rs, o.idxOf i < o.idxOf j) := by
  obtain ⟨nf, no⟩ := (orderly_iff ok nb).mp od
  obtain ⟨r, er⟩ := part_row mi
  obtain ⟨s, es⟩ := part_row mj
  have all : (∀ o ∈ ordersOf rs, o.idxOf i < o.idxOf j) ↔ ∀ o, OM.Full (tmOf rs ok nb).toHst o → o.idxOf i < o.idxOf j := ⟨fun h o f => h o ((mem_orders ok nb).mpr f), fun h o m => h o ((mem_orders ok nb).mp m)⟩
  have zi : zoneOf rs (lotOf r i) = zoneM rs (lotI rs i) := by
    have hm := has_lot mi
    rw [lotI_at er] at hm ⊢
    exact zone_eq ok hm
  have zj : zoneOf rs (lotOf s j) = zoneM rs (lotI rs j) := by
    have hm := has_lot mj
    rw [lotI_at es] at hm ⊢
    exact zone_eq ok hm
  rw [sure_iff er es, all, zi, zj]
  obtain ⟨o0, f0⟩ := OM.order_iff.mpr ⟨nf, no⟩
  by_cases ne : lotI rs i = lotI rs j
  · have ne' : lotOf r i = lotOf s j := by rw [lotI_at er, lotI_at es] at ne; exact ne
    rw [if_neg (fun z => z ne')]
    by_cases e : i = j
    · subst e
      rw [er] at es
      cases es
      constructor
      · intro h
        cases hg : r.g with
        | false => rw [if_pos hg] at h; exact absurd rfl h
        | true =>
          rw [if_neg (by rw [hg]; exact fun z => nomatch z)] at h
          have := (tmOf rs ok nb).irr i
          have this : aI rs i i = false := this
          rw [← aheadI_aI er] at this
          unfold aheadI at this
          rw [er] at this
          rw [show ahead r r = false from this] at h
          cases h
      · exact fun h => absurd rfl h.1
    · cases hg : r.g with
      | false =>
        rw [if_pos rfl]
        exact ⟨fun _ => ⟨e, fun o f => OM.sure_put (t := tmOf rs ok nb) mi mj e (show isPutAt rs i = true by rw [put_at er, hg]; rfl) ne f⟩, fun h => h.1⟩
      | true =>
        rw [if_neg (fun z => nomatch z)]
        have ah : ahead r s = aI rs i j := by
          rw [← aheadI_aI es]
          unfold aheadI
          rw [er, es]
        rw [ah]
        have pi : isPutAt rs i = false := by rw [put_at er, hg]; rfl
        cases hg2 : s.g with
        | true =>
          have pj : isPutAt rs j = false := by rw [put_at es, hg2]; rfl
          have := OM.sure_gets (t := tmOf rs ok nb) nf no mi mj e pi pj ne
          exact ⟨fun h => ⟨e, this.mpr h⟩, fun h => this.mp h.2⟩
        | false =>
          have pj : isPutAt rs j = true := by rw [put_at es, hg2]; rfl
          have lj := (tmOf rs ok nb).lp j mj pj
          have li : lotI rs i = some (j : Int) := ne.trans lj
          constructor
          · intro h
            have := nf i j mi mj pi li
            have this : aI rs i j = false := this
            rw [this] at h
            cases h
          · intro h
            have h1 := h.2 o0 f0
            have h2 := OM.sure_put (t := tmOf rs ok nb) mj mi (Ne.symm e) pj ne.symm f0
            omega
  · have ne' : lotOf r i ≠ lotOf s j := by rw [lotI_at er, lotI_at es] at ne; exact ne
    have lr : Leads (zonesOf rs) (zoneM rs (lotI rs i)) (zoneM rs (lotI rs j)) ↔ OM.Rt (tmOf rs ok nb) (lotI rs i) (lotI rs j) := leads_rt ok nb ⟨i, mi, rfl⟩ ⟨j, mj, rfl⟩
    rw [if_pos ne', lr]
    have := OM.sure_lots (t := tmOf rs ok nb) nf no mi mj ne
    exact ⟨fun h => ⟨fun e => ne (by rw [e]), this.mpr h⟩, fun h => this.mp h.2⟩
end
end K36
end

section
set_option Elab.async false
set_option linter.all false
set_option maxRecDepth 100000
set_option maxHeartbeats 4000000
/-! a further get behind all asks -/
namespace K36
open PySem L2 KZ
def lateR (late : Int) (told : Option Int) : Row := ⟨"z", true, late, some (late + 1), told⟩
def withL (rs : List Row) (late : Int) (told : Option Int) : List Row := rs ++ [lateR late told]
/-- what a further get may tell: nothing, or a put -/
def ToldOk (rs : List Row) (told : Option Int) : Prop := ∀ t, told = some t → ∃ k : Nat, t = k ∧ isPutAt rs k = true
def Behind (rs : List Row) (late : Int) : Prop := 0 ≤ late ∧ (∀ r ∈ rs, r.b < late) ∧ ∀ r ∈ rs, ∀ e, r.e = some e → e < late
section
variable {rs : List Row} {late : Int} {told : Option Int}
theorem wl_old {i : Nat} (h : i < rs.length) : (withL rs late told)[i]? = rs[i]? := by
  unfold withL
  rw [List.getElem?_append_left h]
theorem wl_new : (withL rs late told)[rs.length]? = some (lateR late told) := by
  unfold withL
  rw [List.getElem?_append_right (Nat.le_refl _), Nat.sub_self]
  rfl
theorem wl_len : (withL rs late told).length = rs.length + 1 := by unfold withL; rw [List.length_append]; rfl
theorem wl_some {i : Nat} {r : Row} (h : rs[i]? = some r) : (withL rs late told)[i]? = some r := by rw [wl_old (List.getElem?_eq_some_iff.mp h).1, h]
theorem wl_cases {i : Nat} {r : Row} (h : (withL rs late told)[i]? = some r) : rs[i]? = some r ∨ (i = rs.length ∧ r = lateR late told) := by
  have hi := (List.getElem?_eq_some_iff.mp h).1
  rw [wl_len] at hi
  by_cases l : i < rs.length
  · rw [wl_old l] at h
    exact .inl h
  · have e : i = rs.length := by omega
    subst e
    rw [wl_new] at h
    exact .inr ⟨rfl, (Option.some.inj h).symm⟩
theorem put_lt {k : Nat} (h : isPutAt rs k = true) : ∃ s, rs[k]? = some s ∧ s.g = false := by
  unfold isPutAt at h
  cases hs : rs[k]? with
  | none => rw [hs] at h; cases h
  | some s =>
    rw [hs] at h
    refine ⟨s, rfl, ?_⟩
    cases hg : s.g with
    | false => rfl
    | true =>
      have h : (!s.g) = true := h
      rw [hg] at h
      cases h
theorem wl_ok (ok : ∀ r ∈ rs, r.Ok) (bh : Behind rs late) (to : ToldOk rs told) : ∀ r ∈ withL rs late told, r.Ok := fun r m => by
  rcases List.mem_append.mp m with m | m
  · exact ok r m
  · rw [List.mem_singleton.mp m]
    refine ⟨(show isName (.str "z") = true by decide +kernel), bh.1, fun e z => ?_, fun t z => ⟨rfl, (by intro y; cases y), ?_⟩⟩
    · cases z
      show late < late + 1
      omega
    · obtain ⟨k, rfl, _⟩ := to t z
      omega
theorem wl_nb (ok : ∀ r ∈ rs, r.Ok) (nb : firstBad rs = none) (to : ToldOk rs told) : firstBad (withL rs late told) = none := by
  unfold firstBad
  refine List.find?_eq_none.mpr fun i mi c => ?_
  have hi := List.mem_range.mp mi
  rw [wl_len] at hi
  have key : ∀ (k : Nat) s, rs[k]? = some s → s.g = false → ∀ r, (withL rs late told)[i]? = some r → r.t = some (k : Int) → False := fun k s es gs r er et => by
    unfold badAt at c
    rw [er, show (some r).bind (·.t) = some (k : Int) from et] at c
    have hk := (List.getElem?_eq_some_iff.mp es).1
    have c : (decide (((withL rs late told).length : Int) ≤ (k : Int)) || (match (withL rs late told)[(k : Int).toNat]? with
      | some r => r.g
      | none => true)) = true := c
    rw [Int.toNat_natCast, wl_some es, wl_len, decide_eq_false (by omega)] at c
    have c : (false || s.g) = true := c
    rw [gs] at c
    cases c
  obtain ⟨r, er⟩ : ∃ r, (withL rs late told)[i]? = some r := ⟨_, List.getElem?_eq_getElem (by rw [wl_len]; exact hi)⟩
  cases ht : r.t with
  | none =>
    unfold badAt at c
    rw [er, show (some r).bind (·.t) = none from ht] at c
    cases c
  | some t =>
    rcases wl_cases er with h | ⟨_, rfl⟩
    · obtain ⟨k, s, rfl, es, gs⟩ := told_at ok nb h ht
      exact key k s es gs r er ht
    · obtain ⟨k, rfl, pk⟩ := to t ht
      obtain ⟨s, es, gs⟩ := put_lt pk
      exact key k s es gs _ er ht
theorem wl_told (k : Int) : isTold (withL rs late told) (some k) = (isTold rs (some k) || decide (told = some k)) := by
  unfold isTold withL
  rw [List.any_append]
  congr 1
  show ((true && true) && decide (told = some k) || false) = _
  cases decide (told = some k) <;> rfl
theorem wl_parts (to : ToldOk rs told) {i : Nat} : i ∈ partsOf (withL rs late told) ↔ i = rs.length ∨ i ∈ partsOf rs ∨ told = some (i : Int) := by
  constructor
  · intro m
    obtain ⟨r, er, c⟩ := mem_parts.mp m
    rcases wl_cases er with h | ⟨e, _⟩
    · rw [wl_told] at c
      by_cases t : told = some (i : Int)
      · exact .inr (.inr t)
      · rw [decide_eq_false t, Bool.or_false] at c
        exact .inr (.inl (mem_parts.mpr ⟨r, h, c⟩))
    · exact .inl e
  · rintro (rfl | m | t)
    · exact mem_parts.mpr ⟨_, wl_new, rfl⟩
    · obtain ⟨r, er, c⟩ := mem_parts.mp m
      refine mem_parts.mpr ⟨r, wl_some er, ?_⟩
      rw [wl_told]
      cases he : r.e.isSome with
      | true => rfl
      | false =>
        rw [he] at c
        rw [Bool.false_or, Bool.and_eq_true] at c ⊢
        exact ⟨c.1, by rw [c.2]; rfl⟩
    · obtain ⟨k, e, pk⟩ := to _ t
      have : i = k := Int.ofNat.inj e
      subst this
      obtain ⟨s, es, gs⟩ := put_lt pk
      refine mem_parts.mpr ⟨s, wl_some es, ?_⟩
      rw [wl_told, decide_eq_true t, gs]
      cases s.e.isSome <;> cases isTold rs (some (i : Int)) <;> rfl
theorem wl_lot {i : Nat} (h : i < rs.length) : lotI (withL rs late told) i = lotI rs i := by unfold lotI; rw [wl_old h]
theorem wl_lotN : lotI (withL rs late told) rs.length = told := by rw [lotI_at wl_new]; rfl
theorem wl_b {i : Nat} (h : i < rs.length) : bI (withL rs late told) i = bI rs i := by unfold bI; rw [wl_old h]
theorem wl_e {i : Nat} (h : i < rs.length) : eI (withL rs late told) i = eI rs i := by unfold eI; rw [wl_old h]
theorem wl_a {i j : Nat} (hi : i < rs.length) (hj : j < rs.length) : aI (withL rs late told) i j = aI rs i j := by unfold aI; rw [wl_e hi, wl_b hj]
theorem told_lt (to : ToldOk rs told) {i : Nat} (t : told = some (i : Int)) : i < rs.length ∧ lotI rs i = told ∧ isPutAt rs i = true := by
  obtain ⟨k, e, pk⟩ := to _ t
  have : i = k := Int.ofNat.inj e
  subst this
  obtain ⟨s, es, gs⟩ := put_lt pk
  refine ⟨(List.getElem?_eq_some_iff.mp es).1, ?_, pk⟩
  rw [lotI_at es, t]
  unfold lotOf
  rw [if_neg (by rw [gs]; exact fun z => nomatch z)]
end
end K36
end

section
set_option Elab.async false
set_option linter.all false
set_option maxRecDepth 100000
set_option maxHeartbeats 4000000
/-! when a further get can tell something -/
namespace K36
open PySem L2 KZ
section
variable {rs : List Row} {late : Int} {told : Option Int}
abbrev Bz (rs : List Row) (k : Option Int) : Int := (zoneM rs k).2.2
abbrev Ez (rs : List Row) (k : Option Int) : Int := (zoneM rs k).2.1
def HasL (rs : List Row) (k : Option Int) : Prop := ∃ i ∈ partsOf rs, lotI rs i = k
theorem HasL.m {k : Option Int} (h : HasL rs k) : hasM rs k = true := by
  obtain ⟨i, mi, rfl⟩ := h
  exact has_lot mi
theorem B_is {k : Option Int} {m : Int} (h : ∃ i ∈ partsOf rs, lotI rs i = k ∧ bI rs i = m) (u : ∀ i ∈ partsOf rs, lotI rs i = k → bI rs i ≤ m) : Bz rs k = m := by
  obtain ⟨i, mi, li, bi⟩ := h
  obtain ⟨⟨j, mj, lj, bj⟩, up⟩ := B_spec (HasL.m ⟨i, mi, li⟩)
  have h1 := up i mi li
  have h2 := u j mj lj
  show (zoneM rs k).2.2 = m
  omega
theorem E_is {k : Option Int} {m : Int} (nk : k ≠ none) (h : ∃ i ∈ partsOf rs, lotI rs i = k ∧ eI rs i = some m) (u : ∀ i ∈ partsOf rs, lotI rs i = k → ∀ y, eI rs i = some y → m ≤ y) : Ez rs k = m := by
  obtain ⟨i, mi, li, ei⟩ := h
  obtain ⟨⟨j, mj, lj, ej⟩, up⟩ := E_spec (HasL.m ⟨i, mi, li⟩) nk
  have h1 := up i mi li m ei
  have h2 := u j mj lj _ ej
  show (zoneM rs k).2.1 = m
  omega
theorem E_none : Ez rs none = -1 := rfl
theorem b_late (bh : Behind rs late) {i : Nat} (mi : i ∈ partsOf rs) : bI rs i < late := by
  obtain ⟨r, er⟩ := part_row mi
  rw [bI_at er]
  exact bh.2.1 r (List.mem_of_getElem? er)
theorem e_late (bh : Behind rs late) {i : Nat} {y : Int} (ey : eI rs i = some y) : y < late := by
  unfold eI at ey
  cases hr : rs[i]? with
  | none => rw [hr] at ey; cases ey
  | some r => rw [hr] at ey; exact bh.2.2 r (List.mem_of_getElem? hr) y ey
theorem E_late (bh : Behind rs late) {k : Option Int} (h : HasL rs k) : Ez rs k < late := by
  by_cases nk : k = none
  · rw [nk, E_none]
    have := bh.1
    omega
  · obtain ⟨⟨j, _, _, ej⟩, _⟩ := E_spec h.m nk
    exact e_late bh ej
theorem B_late (bh : Behind rs late) {k : Option Int} (h : HasL rs k) : Bz rs k < late := by
  obtain ⟨⟨j, mj, _, bj⟩, _⟩ := B_spec h.m
  show (zoneM rs k).2.2 < late
  rw [← bj]
  exact b_late bh mj
theorem B_nn (ok : ∀ r ∈ rs, r.Ok) {k : Option Int} (h : HasL rs k) : 0 ≤ Bz rs k := by
  obtain ⟨⟨j, mj, _, bj⟩, _⟩ := B_spec h.m
  show 0 ≤ (zoneM rs k).2.2
  rw [← bj]
  obtain ⟨r, er⟩ := part_row mj
  rw [bI_at er]
  exact (ok r (List.mem_of_getElem? er)).b0
theorem wl_mem (to : ToldOk rs told) {i : Nat} (h : i ∈ partsOf (withL rs late told)) : i = rs.length ∨ (i < rs.length ∧ lotI (withL rs late told) i = lotI rs i ∧ (i ∈ partsOf rs ∨ (lotI rs i = told ∧ isPutAt rs i = true ∧ told = some (i : Int)))) := by
  rcases (wl_parts to).mp h with e | m | t
  · exact .inl e
  · have := parts_lt m
    exact .inr ⟨this, wl_lot this, .inl m⟩
  · obtain ⟨l, e, p⟩ := told_lt to t
    exact .inr ⟨l, wl_lot l, .inr ⟨e, p, t⟩⟩
theorem wl_has (to : ToldOk rs told) {k : Option Int} : HasL (withL rs late told) k ↔ HasL rs k ∨ k = told := by
  constructor
  · rintro ⟨i, mi, rfl⟩
    rcases wl_mem to mi with rfl | ⟨_, e, m | ⟨e2, _⟩⟩
    · exact .inr wl_lotN
    · exact .inl ⟨i, m, e.symm⟩
    · exact .inr (e.trans e2)
  · rintro (⟨i, mi, rfl⟩ | rfl)
    · exact ⟨i, (wl_parts to).mpr (.inr (.inl mi)), wl_lot (parts_lt mi)⟩
    · exact ⟨rs.length, (wl_parts to).mpr (.inl rfl), wl_lotN⟩
theorem wl_B (to : ToldOk rs told) {k : Option Int} (h : HasL rs k) (ne : k ≠ told) : Bz (withL rs late told) k = Bz rs k := by
  obtain ⟨⟨j, mj, lj, bj⟩, up⟩ := B_spec h.m
  refine B_is ⟨j, (wl_parts to).mpr (.inr (.inl mj)), by rw [wl_lot (parts_lt mj), lj], by rw [wl_b (parts_lt mj), bj]⟩ fun i mi li => ?_
  rcases wl_mem to mi with rfl | ⟨l, e, m | ⟨e2, _⟩⟩
  · rw [wl_lotN] at li
    exact absurd li.symm ne
  · rw [wl_b l]
    exact up i m (e.symm.trans li)
  · exact absurd (li.symm.trans (e.trans e2)) ne
theorem wl_BT (bh : Behind rs late) (to : ToldOk rs told) : Bz (withL rs late told) told = late := by
  refine B_is ⟨rs.length, (wl_parts to).mpr (.inl rfl), wl_lotN, by rw [bI_at wl_new]; rfl⟩ fun i mi li => ?_
  rcases wl_mem to mi with rfl | ⟨l, _, _⟩
  · rw [bI_at wl_new]
    exact Int.le_refl _
  · rw [wl_b l]
    unfold bI
    rw [List.getElem?_eq_getElem l]
    exact Int.le_of_lt (bh.2.1 _ (List.getElem_mem l))
theorem wl_E (bh : Behind rs late) (to : ToldOk rs told) {k : Option Int} (h : HasL rs k) : Ez (withL rs late told) k = Ez rs k := by
  by_cases nk : k = none
  · rw [nk]; rfl
  obtain ⟨⟨j, mj, lj, ej⟩, up⟩ := E_spec h.m nk
  refine E_is nk ⟨j, (wl_parts to).mpr (.inr (.inl mj)), by rw [wl_lot (parts_lt mj), lj], by rw [wl_e (parts_lt mj), ej]⟩ fun i mi li y ey => ?_
  rcases wl_mem to mi with rfl | ⟨l, e, m | ⟨e2, p, t⟩⟩
  · rw [eI_at wl_new] at ey
    cases ey
    have := e_late bh ej
    show (zoneM rs k).2.1 ≤ late + 1
    omega
  · rw [wl_e l] at ey
    exact up i m (e.symm.trans li) y ey
  · rw [wl_e l] at ey
    obtain ⟨r, er⟩ : ∃ r, rs[i]? = some r := ⟨_, List.getElem?_eq_getElem l⟩
    have mi2 : i ∈ partsOf rs := mem_parts.mpr ⟨r, er, by
      rw [eI_at er] at ey
      rw [ey]
      rfl⟩
    exact up i mi2 (e.symm.trans li) y ey
theorem wl_EN (bh : Behind rs late) (to : ToldOk rs told) (nt : told ≠ none) (nh : ¬ HasL rs told) : Ez (withL rs late told) told = late + 1 := by
  refine E_is nt ⟨rs.length, (wl_parts to).mpr (.inl rfl), wl_lotN, by rw [eI_at wl_new]; rfl⟩ fun i mi li y ey => ?_
  rcases wl_mem to mi with rfl | ⟨l, e, m | ⟨e2, p, t⟩⟩
  · rw [eI_at wl_new] at ey
    cases ey
    exact Int.le_refl _
  · exact absurd ⟨i, m, e.symm.trans li⟩ nh
  · rw [wl_e l] at ey
    obtain ⟨r, er⟩ : ∃ r, rs[i]? = some r := ⟨_, List.getElem?_eq_getElem l⟩
    exact absurd ⟨i, mem_parts.mpr ⟨r, er, by rw [eI_at er] at ey; rw [ey]; rfl⟩, e2⟩ nh
/-- what of the lots lets a further get tell this -/
def LastOk (rs : List Row) (told : Option Int) : Prop := match told with
  | none => ∀ k, HasL rs k → k = none
  | some t => HasL rs (some t) → ∀ k, HasL rs k → k ≠ some t → Bz rs k ≤ Ez rs (some t)
theorem fut_wl (ok : ∀ r ∈ rs, r.Ok) (nb : firstBad rs = none) (bh : Behind rs late) (to : ToldOk rs told) : OM.NoFut (tmOf (withL rs late told) (wl_ok ok bh to) (wl_nb ok nb to)) ↔ OM.NoFut (tmOf rs ok nb) := by
  have putE : ∀ {i}, i < rs.length → isPutAt (withL rs late told) i = isPutAt rs i := fun {i} l => by unfold isPutAt; rw [wl_old l]
  constructor
  · intro h i p mi mp pi lt
    have li := parts_lt (show i ∈ partsOf rs from mi)
    have lp := parts_lt (show p ∈ partsOf rs from mp)
    have := h i p ((wl_parts to).mpr (.inr (.inl mi))) ((wl_parts to).mpr (.inr (.inl mp))) (show isPutAt (withL rs late told) i = false by rw [putE li]; exact pi) (show lotI (withL rs late told) i = some (p : Int) by rw [wl_lot li]; exact lt)
    have this : aI (withL rs late told) i p = false := this
    rw [wl_a li lp] at this
    exact this
  · intro h i p mi mp pi lt
    have pi : isPutAt (withL rs late told) i = false := pi
    have lt : lotI (withL rs late told) i = some (p : Int) := lt
    show aI (withL rs late told) i p = false
    rcases wl_mem to mi with rfl | ⟨l, e, m | ⟨_, p2, _⟩⟩
    · rw [wl_lotN] at lt
      obtain ⟨lp, _, _⟩ := told_lt to lt
      unfold aI
      rw [eI_at wl_new, wl_b lp, bI_at (List.getElem?_eq_getElem lp)]
      have := bh.2.1 _ (List.getElem_mem lp)
      exact decide_eq_false (show ¬ late + 1 < rs[p].b by omega)
    · rw [e] at lt
      obtain ⟨q, eq, mq, _⟩ := (tmOf rs ok nb).lg i m _ lt
      have : p = q := Int.ofNat.inj eq
      subst this
      rw [wl_a l (parts_lt mq)]
      exact h i p m mq (by rw [putE l] at pi; exact pi) lt
    · rw [putE l, p2] at pi
      cases pi
theorem odd_wl (ok : ∀ r ∈ rs, r.Ok) (nb : firstBad rs = none) (bh : Behind rs late) (to : ToldOk rs told) : OM.NoOdd (tmOf (withL rs late told) (wl_ok ok bh to) (wl_nb ok nb to)) ↔ OM.NoOdd (tmOf rs ok nb) ∧ LastOk rs told := by
  constructor
  · intro h
    have h : ∀ x y, HasL (withL rs late told) x → HasL (withL rs late told) y → x ≠ y → ¬(Ez (withL rs late told) x < Bz (withL rs late told) y ∧ Ez (withL rs late told) y < Bz (withL rs late told) x) := h
    have up : ∀ k, HasL rs k → Bz rs k ≤ Bz (withL rs late told) k := fun k hk => by
      by_cases e : k = told
      · rw [e, wl_BT bh to]
        exact Int.le_of_lt (B_late bh (e ▸ hk))
      · rw [wl_B to hk e]
        exact Int.le_refl _
    refine ⟨fun x y hx hy ne ⟨r1, r2⟩ => ?_, ?_⟩
    · have r1 : Ez rs x < Bz rs y := r1
      have r2 : Ez rs y < Bz rs x := r2
      have hx : HasL rs x := hx
      have hy : HasL rs y := hy
      exact h x y ((wl_has to).mpr (.inl hx)) ((wl_has to).mpr (.inl hy)) ne ⟨by rw [wl_E bh to hx]; exact Int.lt_of_lt_of_le r1 (up y hy), by rw [wl_E bh to hy]; exact Int.lt_of_lt_of_le r2 (up x hx)⟩
    · have back : ∀ k, HasL rs k → k ≠ told → ¬ Ez (withL rs late told) told < Bz rs k := fun k hk ne lt => h told k ((wl_has to).mpr (.inr rfl)) ((wl_has to).mpr (.inl hk)) (Ne.symm ne) ⟨by rw [wl_B to hk ne]; exact lt, by rw [wl_E bh to hk, wl_BT bh to]; exact E_late bh hk⟩
      cases told with
      | none =>
        intro k hk
        by_cases e : k = none
        · exact e
        · have := back k hk e
          rw [E_none] at this
          have := B_nn ok hk
          omega
      | some t =>
        intro ht k hk ne
        have := back k hk ne
        rw [wl_E bh to ht] at this
        omega
  · rintro ⟨h, lo⟩
    have key : ∀ k, HasL rs k → k ≠ told → ¬ Ez (withL rs late told) told < Bz rs k := fun k hk ne lt => by
      cases told with
      | none => exact ne (lo k hk)
      | some t =>
        by_cases ht : HasL rs (some t)
        · have := lo ht k hk ne
          rw [wl_E bh to ht] at lt
          omega
        · rw [wl_EN bh to (fun z => nomatch z) ht] at lt
          have := B_late bh hk
          omega
    intro x y hx hy ne ⟨r1, r2⟩
    have r1 : Ez (withL rs late told) x < Bz (withL rs late told) y := r1
    have r2 : Ez (withL rs late told) y < Bz (withL rs late told) x := r2
    have hx : HasL (withL rs late told) x := hx
    have hy : HasL (withL rs late told) y := hy
    by_cases ex : x = told
    · subst ex
      have hy2 : HasL rs y := ((wl_has to).mp hy).resolve_right (Ne.symm ne)
      rw [wl_B to hy2 (Ne.symm ne)] at r1
      exact key y hy2 (Ne.symm ne) r1
    · have hx2 : HasL rs x := ((wl_has to).mp hx).resolve_right ex
      by_cases ey : y = told
      · subst ey
        rw [wl_B to hx2 ne] at r2
        exact key x hx2 ne r2
      · have hy2 : HasL rs y := ((wl_has to).mp hy).resolve_right ey
        rw [wl_E bh to hx2, wl_B to hy2 ey] at r1
        rw [wl_E bh to hy2, wl_B to hx2 ex] at r2
        exact h x y hx2 hy2 ne ⟨r1, r2⟩
theorem orderly_wl (ok : ∀ r ∈ rs, r.Ok) (nb : firstBad rs = none) (bh : Behind rs late) (to : ToldOk rs told) : Orderly (withL rs late told) ↔ Orderly rs ∧ LastOk rs told := by
  rw [orderly_iff (wl_ok ok bh to) (wl_nb ok nb to), orderly_iff ok nb, fut_wl ok nb bh to, odd_wl ok nb bh to, and_assoc]
end
end K36
end

section
set_option Elab.async false
set_option linter.all false
set_option maxRecDepth 100000
set_option maxHeartbeats 4000000
/-! what a further get can tell, both ways -/
namespace K36
open PySem L2 KZ
def putsOf (rs : List Row) : List Nat := (List.range rs.length).filter (isPutAt rs)
def dueOf (rs : List Row) (late : Int) : List (Option Int) := (none :: (putsOf rs).map fun (i : Nat) => some (i : Int)).filter fun told => !(ordersOf (withL rs late told)).isEmpty
section
variable {rs : List Row} {late : Int}
theorem HasL_zone (ok : ∀ r ∈ rs, r.Ok) (nb : firstBad rs = none) {k : Option Int} : HasL rs k ↔ ∃ z ∈ zonesOf rs, z.1 = k := by
  constructor
  · rintro ⟨i, mi, rfl⟩
    exact ⟨_, (zones_iff ok nb).mpr ⟨i, mi, rfl⟩, rfl⟩
  · rintro ⟨z, mz, rfl⟩
    obtain ⟨i, mi, rfl⟩ := (zones_iff ok nb).mp mz
    exact ⟨i, mi, rfl⟩
theorem zone_of (ok : ∀ r ∈ rs, r.Ok) (nb : firstBad rs = none) {z : Zn} (h : z ∈ zonesOf rs) : z = zoneM rs z.1 := by
  obtain ⟨i, mi, rfl⟩ := (zones_iff ok nb).mp h
  rfl
theorem none_last (ok : ∀ r ∈ rs, r.Ok) (nb : firstBad rs = none) : LastOk rs none ↔ someB (zonesOf rs) = false := by
  constructor
  · intro h
    refine List.any_eq_false.mpr fun z mz c => ?_
    have := h z.1 ((HasL_zone ok nb).mpr ⟨z, mz, rfl⟩)
    rw [this] at c
    cases c
  · intro h k hk
    obtain ⟨z, mz, rfl⟩ := (HasL_zone ok nb).mp hk
    have := List.any_eq_false.mp h z mz
    cases hz : z.1 with
    | none => rfl
    | some x => rw [hz] at this; exact absurd rfl this
theorem last_can (ok : ∀ r ∈ rs, r.Ok) (nb : firstBad rs = none) {z : Zn} {t : Int} (mz : z ∈ zonesOf rs) (ez : z.1 = some t) : canLast (zonesOf rs) z = true ↔ LastOk rs (some t) := by
  have zz := zone_of ok nb mz
  rw [ez] at zz
  have ht : HasL rs (some t) := (HasL_zone ok nb).mpr ⟨z, mz, ez⟩
  unfold canLast
  rw [List.all_eq_true]
  constructor
  · intro h _ k hk ne
    obtain ⟨u, mu, rfl⟩ := (HasL_zone ok nb).mp hk
    have c := h u mu
    have uu := zone_of ok nb mu
    unfold lastB at c
    rw [Bool.or_eq_true] at c
    rcases c with c | c
    · exact absurd (of_decide_eq_true c |>.trans ez) ne
    · have c := of_decide_eq_true c
      rw [zz] at c
      show (zoneM rs u.1).2.2 ≤ (zoneM rs (some t)).2.1
      rw [← uu]
      exact c
  · intro h u mu
    have uu := zone_of ok nb mu
    unfold lastB
    rw [Bool.or_eq_true]
    by_cases e : u.1 = z.1
    · exact .inl (decide_eq_true e)
    · refine .inr (decide_eq_true ?_)
      have := h ht u.1 ((HasL_zone ok nb).mpr ⟨u, mu, rfl⟩) (by rw [← ez]; exact e)
      rw [zz]
      rw [uu]
      exact this
theorem put_lot (ok : ∀ r ∈ rs, r.Ok) (nb : firstBad rs = none) {t : Int} (h : HasL rs (some t)) : ∃ k : Nat, t = k ∧ isPutAt rs k = true := by
  obtain ⟨i, mi, e⟩ := h
  obtain ⟨p, ep, _, pp⟩ := (tmOf rs ok nb).lg i mi t e
  exact ⟨p, ep, pp⟩
theorem there_has (ok : ∀ r ∈ rs, r.Ok) (nb : firstBad rs = none) {k : Nat} : thereB (zonesOf rs) k = true ↔ HasL rs (some (k : Int)) := by
  rw [HasL_zone ok nb]
  constructor
  · intro h
    obtain ⟨z, mz, e⟩ := List.any_eq_true.mp h
    exact ⟨z, mz, of_decide_eq_true e⟩
  · rintro ⟨z, mz, e⟩
    exact List.any_eq_true.mpr ⟨z, mz, decide_eq_true e⟩
theorem mem_last (ok : ∀ r ∈ rs, r.Ok) (nb : firstBad rs = none) {t : Int} : t ∈ lastOf (zonesOf rs) ↔ HasL rs (some t) ∧ LastOk rs (some t) := by
  unfold lastOf lastIn
  rw [List.mem_filterMap]
  constructor
  · rintro ⟨z, mz, e⟩
    obtain ⟨m1, m2⟩ := List.mem_filter.mp mz
    rw [Bool.and_eq_true] at m2
    exact ⟨(HasL_zone ok nb).mpr ⟨z, m1, e⟩, (last_can ok nb m1 e).mp m2.2⟩
  · rintro ⟨h, l⟩
    obtain ⟨z, mz, e⟩ := (HasL_zone ok nb).mp h
    refine ⟨z, List.mem_filter.mpr ⟨mz, ?_⟩, e⟩
    rw [Bool.and_eq_true]
    exact ⟨by rw [e]; rfl, (last_can ok nb mz e).mpr l⟩
theorem nodup_last (ok : ∀ r ∈ rs, r.Ok) (nb : firstBad rs = none) : (lastOf (zonesOf rs)).Nodup := by
  have go : ∀ l : List Zn, (l.map (·.1)).Nodup → (l.filterMap (·.1)).Nodup := fun l => by
    induction l with
    | nil => exact fun _ => List.nodup_nil
    | cons z l ih =>
      intro h
      rw [List.map_cons, List.nodup_cons] at h
      cases hz : z.1 with
      | none => rw [List.filterMap_cons_none hz]; exact ih h.2
      | some x =>
        rw [List.filterMap_cons_some hz, List.nodup_cons]
        refine ⟨fun m => h.1 ?_, ih h.2⟩
        obtain ⟨u, mu, eu⟩ := List.mem_filterMap.mp m
        exact List.mem_map.mpr ⟨u, mu, by rw [eu, hz]⟩
  unfold lastOf lastIn
  refine go _ ?_
  exact List.Nodup.sublist (List.Sublist.map _ List.filter_sublist) (zones_keys ok nb)
theorem due_told {told : Option Int} (ok : ∀ r ∈ rs, r.Ok) (nb : firstBad rs = none) (bh : Behind rs late) (to : ToldOk rs told) : (!(ordersOf (withL rs late told)).isEmpty) = true ↔ Orderly rs ∧ LastOk rs told := by
  rw [← orderly_wl ok nb bh to, ← orders_some (wl_ok ok bh to) (wl_nb ok nb to)]
  cases ordersOf (withL rs late told) <;> simp
theorem put_ok {i : Nat} (h : isPutAt rs i = true) : ToldOk rs (some (i : Int)) := fun t e => ⟨i, (Option.some.inj e).symm, h⟩
theorem due_no (ok : ∀ r ∈ rs, r.Ok) (nb : firstBad rs = none) (bh : Behind rs late) (h : ¬ Orderly rs) : dueOf rs late = [] := by
  refine List.filter_eq_nil_iff.mpr fun told m c => ?_
  have to : ToldOk rs told := by
    rcases List.mem_cons.mp m with rfl | m
    · exact fun t e => nomatch e
    · obtain ⟨i, mi, rfl⟩ := List.mem_map.mp m
      exact put_ok (List.mem_filter.mp mi).2
  exact h ((due_told ok nb bh to).mp c).1
theorem due_yes (ok : ∀ r ∈ rs, r.Ok) (nb : firstBad rs = none) (bh : Behind rs late) (od : Orderly rs) {ns : List Int} (pm : ns.Perm ((freeOf rs (zonesOf rs)).map (fun (n : Nat) => (n : Int)) ++ lastOf (zonesOf rs))) (asc : ns.Pairwise (· ≤ ·)) :
    dueOf rs late = if someB (zonesOf rs) = true then ns.map some else none :: ns.map some := by
  unfold dueOf
  have e1 : ((putsOf rs).map fun (i : Nat) => some (i : Int)).filter (fun told => !(ordersOf (withL rs late told)).isEmpty) = ns.map some := by
    rw [List.filter_map]
    have e2 : ((putsOf rs).map fun (i : Nat) => (i : Int)).filter (fun t => !(ordersOf (withL rs late (some t))).isEmpty) = ns := by
      have pw : (((putsOf rs).map fun (i : Nat) => (i : Int)).filter (fun t => !(ordersOf (withL rs late (some t))).isEmpty)).Pairwise (· ≤ ·) := by
        refine List.Pairwise.filter _ (List.Pairwise.map _ (fun a b (h : a < b) => by omega) (List.Pairwise.filter _ List.pairwise_lt_range))
      have pm2 : (((putsOf rs).map fun (i : Nat) => (i : Int)).filter (fun t => !(ordersOf (withL rs late (some t))).isEmpty)).Perm ((freeOf rs (zonesOf rs)).map (fun (n : Nat) => (n : Int)) ++ lastOf (zonesOf rs)) := by
        have inj : ∀ l : List Nat, l.Nodup → (l.map fun (i : Nat) => (i : Int)).Nodup := fun l h => List.Pairwise.map _ (fun a b (h : a ≠ b) e => h (Int.ofNat.inj e)) h
        refine (List.perm_ext_iff_of_nodup ?_ ?_).mpr fun t => ?_
        · exact List.Pairwise.filter _ (inj _ (List.Pairwise.filter _ List.nodup_range))
        · rw [List.nodup_append]
          refine ⟨inj _ (List.Pairwise.filter _ List.nodup_range), nodup_last ok nb, fun a ma b mb e => ?_⟩
          subst e
          obtain ⟨i, mi, rfl⟩ := List.mem_map.mp ma
          have c := (List.mem_filter.mp mi).2
          rw [Bool.and_eq_true, (there_has ok nb).mpr ((mem_last ok nb).mp mb).1] at c
          cases c.2
        · rw [List.mem_filter, List.mem_append, mem_last ok nb, List.mem_map, List.mem_map]
          constructor
          · rintro ⟨⟨i, mi, rfl⟩, c⟩
            obtain ⟨m1, m2⟩ := List.mem_filter.mp mi
            have l := ((due_told ok nb bh (put_ok m2)).mp c).2
            by_cases h : HasL rs (some (i : Int))
            · exact .inr ⟨h, l⟩
            · refine .inl ⟨i, List.mem_filter.mpr ⟨m1, ?_⟩, rfl⟩
              rw [Bool.and_eq_true]
              refine ⟨m2, ?_⟩
              cases c : thereB (zonesOf rs) i with
              | false => rfl
              | true => exact absurd ((there_has ok nb).mp c) h
          · rintro (⟨i, mi, rfl⟩ | ⟨h, l⟩)
            · obtain ⟨m1, m2⟩ := List.mem_filter.mp mi
              rw [Bool.and_eq_true] at m2
              refine ⟨⟨i, List.mem_filter.mpr ⟨m1, m2.1⟩, rfl⟩, (due_told ok nb bh (put_ok m2.1)).mpr ⟨od, fun h => ?_⟩⟩
              rw [(there_has ok nb).mpr h] at m2
              cases m2.2
            · obtain ⟨k, rfl, pk⟩ := put_lot ok nb h
              obtain ⟨s, es, _⟩ := put_lt pk
              exact ⟨⟨k, List.mem_filter.mpr ⟨List.mem_range.mpr (List.getElem?_eq_some_iff.mp es).1, pk⟩, rfl⟩, (due_told ok nb bh (put_ok pk)).mpr ⟨od, l⟩⟩
      exact (PySem.W.eq_sortI pm2 pw).trans (PySem.W.eq_sortI pm asc).symm
    rw [← e2, List.filter_map, List.map_map]
    rfl
  have e0 : (!(ordersOf (withL rs late none)).isEmpty) = !someB (zonesOf rs) := by
    have h := due_told (told := none) ok nb bh (fun t e => nomatch e)
    rw [none_last ok nb] at h
    cases c : someB (zonesOf rs) with
    | false => exact h.mpr ⟨od, c⟩
    | true =>
      cases d : !(ordersOf (withL rs late none)).isEmpty with
      | false => rfl
      | true =>
        have := (h.mp d).2
        rw [c] at this
        cases this
  rw [List.filter_cons, e1, e0]
  cases someB (zonesOf rs) <;> rfl
end
end K36
end

section
set_option Elab.async false
set_option linter.all false
set_option maxRecDepth 100000
set_option maxHeartbeats 4000000
/-! the law's zones are the zones -/
namespace K36
open PySem L2 KZ
theorem getG_set (l : LZ) (k j : Option Int) (v : Option Int × Int) : getG (setG l k v) j = if j = k then some v else getG l j := by
  have mp : ∀ l : LZ, getG (l.map fun p => if p.1 = k then (p.1, v) else p) j = (getG l j).map fun x => if j = k then v else x := fun l => by
    induction l with
    | nil => rfl
    | cons p l ih =>
      by_cases h : p.1 = j
      · by_cases hk : p.1 = k
        · have hj : j = k := h ▸ hk
          simp [getG, h, hj]
        · have hj : ¬ j = k := h ▸ hk
          simp [getG, h, hj]
      · by_cases hk : p.1 = k
        · have e1 : getG ((p :: l).map fun p => if p.1 = k then (p.1, v) else p) j = getG (l.map fun p => if p.1 = k then (p.1, v) else p) j := by simp [getG, hk, (show ¬ k = j from hk ▸ h)]
          have e2 : getG (p :: l) j = getG l j := by simp [getG, h]
          rw [e1, e2, ih]
        · have e1 : getG ((p :: l).map fun p => if p.1 = k then (p.1, v) else p) j = getG (l.map fun p => if p.1 = k then (p.1, v) else p) j := by simp [getG, hk, h]
          have e2 : getG (p :: l) j = getG l j := by simp [getG, h]
          rw [e1, e2, ih]
  unfold setG
  by_cases a : (l.any fun p => decide (p.1 = k)) = true
  · rw [if_pos a, mp]
    by_cases hj : j = k
    · subst hj
      obtain ⟨p, mp', e⟩ := List.any_eq_true.mp a
      have : (getG l j).isSome = true := by
        unfold getG
        rw [Option.isSome_map, List.find?_isSome]
        exact ⟨p, mp', e⟩
      obtain ⟨z, hz⟩ := Option.isSome_iff_exists.mp this
      rw [hz, if_pos rfl]
      show some (if j = j then v else z) = _
      rw [if_pos rfl]
    · rw [if_neg hj]
      cases getG l j with
      | none => rfl
      | some z => show some (if j = k then v else z) = _; rw [if_neg hj]
  · rw [if_neg a]
    unfold getG
    rw [List.find?_append]
    by_cases hj : j = k
    · subst hj
      have : l.find? (fun p => decide (p.1 = j)) = none := by
        rw [List.find?_eq_none]
        intro p m c
        exact a (List.any_eq_true.mpr ⟨p, m, c⟩)
      rw [this, if_pos rfl]
      simp
    · rw [if_neg hj]
      cases h : l.find? (fun p => decide (p.1 = j)) with
      | some z => rfl
      | none =>
        have : ¬ k = j := fun z => hj z.symm
        simp [this]
def accG (k : Option Int) (o : Option (Option Int × Int)) (rows : List Row) : Option (Option Int × Int) := rows.foldl (fun o r => some (nextE (o.getD (startG k)).1 r.e, max2 (o.getD (startG k)).2 r.b)) o
theorem fold_G (rs : List Row) (k : Option Int) : ∀ (ms : List Nat) (l : LZ), getG (ms.foldl (stepG rs) l) k = accG k (getG l k) (mineR rs k ms)
  | [], l => rfl
  | m :: ms, l => by
    rw [List.foldl_cons, fold_G rs k ms, mineR_cons]
    unfold stepG
    cases hr : rs[m]? with
    | none => rfl
    | some r =>
      show accG k (getG (setG l (lotOf r m) _) k) (mineR rs k ms) = accG k (getG l k) ((if lotOf r m = k then [r] else []) ++ mineR rs k ms)
      rw [getG_set]
      by_cases h : lotOf r m = k
      · rw [if_pos h.symm, if_pos h, h]
        rfl
      · rw [if_neg (Ne.symm h), if_neg h, List.nil_append]
theorem acc_pair (k : Option Int) : ∀ (rows : List Row) (a : Option Int) (b : Int), accG k (some (a, b)) rows = some ((rows.map (·.e)).foldl nextE a, (rows.map (·.b)).foldl max2 b)
  | [], _, _ => rfl
  | r :: rows, a, b => acc_pair k rows (nextE a r.e) (max2 b r.b)
theorem acc_start (k : Option Int) {rows : List Row} (h : rows ≠ []) : accG k none rows = some ((rows.map (·.e)).foldl nextE (startG k).1, (rows.map (·.b)).foldl max2 (startG k).2) := by
  cases rows with
  | nil => exact absurd rfl h
  | cons r rows => exact acc_pair k rows _ _
theorem max_fold : ∀ (bs : List Int) (a : Int), ((bs.foldl max2 a) = a ∨ (bs.foldl max2 a) ∈ bs) ∧ a ≤ bs.foldl max2 a ∧ ∀ y ∈ bs, y ≤ bs.foldl max2 a
  | [], a => ⟨.inl rfl, Int.le_refl _, fun y m => (by cases m)⟩
  | b :: bs, a => by
    obtain ⟨h1, h2, h3⟩ := max_fold bs (max2 a b)
    have m1 : a ≤ max2 a b ∧ b ≤ max2 a b ∧ (max2 a b = a ∨ max2 a b = b) := by
      unfold max2
      split
      · exact ⟨by omega, Int.le_refl _, .inr rfl⟩
      · exact ⟨Int.le_refl _, by omega, .inl rfl⟩
    rw [List.foldl_cons]
    refine ⟨?_, Int.le_trans m1.1 h2, fun y my => ?_⟩
    · rcases h1 with h1 | h1
      · rw [h1]
        rcases m1.2.2 with e | e
        · exact .inl e
        · exact .inr (by rw [e]; exact List.mem_cons_self)
      · exact .inr (List.mem_cons_of_mem _ h1)
    · rcases List.mem_cons.mp my with rfl | my
      · exact Int.le_trans m1.2.1 h2
      · exact h3 y my
theorem min_low : ∀ (es : List (Option Int)), (∀ e ∈ es, ∀ y, e = some y → 0 ≤ y) → es.foldl nextE (some (-1)) = some (-1)
  | [], _ => rfl
  | none :: es, h => min_low es fun e m => h e (List.mem_cons_of_mem _ m)
  | some y :: es, h => by
    have := h _ List.mem_cons_self y rfl
    have e : nextE (some (-1)) (some y) = some (-1) := by
      show some (min2 (-1) y) = _
      unfold min2
      rw [if_neg (by omega)]
    rw [List.foldl_cons, e]
    exact min_low es fun e m => h e (List.mem_cons_of_mem _ m)
theorem min_fold : ∀ (es : List (Option Int)) (a : Int), ∃ m, es.foldl nextE (some a) = some m ∧ (m = a ∨ some m ∈ es) ∧ m ≤ a ∧ ∀ y, some y ∈ es → m ≤ y
  | [], a => ⟨a, rfl, .inl rfl, Int.le_refl _, fun y m => (by cases m)⟩
  | none :: es, a => by
    obtain ⟨m, h1, h2, h3, h4⟩ := min_fold es a
    exact ⟨m, h1, h2.imp id (List.mem_cons_of_mem _), h3, fun y my => h4 y ((List.mem_cons.mp my).resolve_left fun z => nomatch z)⟩
  | some b :: es, a => by
    obtain ⟨m, h1, h2, h3, h4⟩ := min_fold es (min2 a b)
    have m1 : min2 a b ≤ a ∧ min2 a b ≤ b ∧ (min2 a b = a ∨ min2 a b = b) := by
      unfold min2
      split
      · exact ⟨by omega, Int.le_refl _, .inr rfl⟩
      · exact ⟨Int.le_refl _, by omega, .inl rfl⟩
    refine ⟨m, h1, ?_, Int.le_trans h3 m1.1, fun y my => ?_⟩
    · rcases h2 with h2 | h2
      · rcases m1.2.2 with e | e
        · exact .inl (h2.trans e)
        · exact .inr (by rw [h2, e]; exact List.mem_cons_self)
      · exact .inr (List.mem_cons_of_mem _ h2)
    · rcases List.mem_cons.mp my with e | my
      · cases e
        exact Int.le_trans h3 m1.2.1
      · exact h4 y my
theorem min_none : ∀ (es : List (Option Int)), (∃ y, some y ∈ es) → ∃ m, es.foldl nextE none = some m ∧ some m ∈ es ∧ ∀ y, some y ∈ es → m ≤ y
  | [], ⟨_, h⟩ => nomatch h
  | none :: es, ⟨y, h⟩ => by
    obtain ⟨m, h1, h2, h3⟩ := min_none es ⟨y, (List.mem_cons.mp h).resolve_left fun z => nomatch z⟩
    exact ⟨m, h1, List.mem_cons_of_mem _ h2, fun y my => h3 y ((List.mem_cons.mp my).resolve_left fun z => nomatch z)⟩
  | some b :: es, _ => by
    obtain ⟨m, h1, h2, h3, h4⟩ := min_fold es b
    refine ⟨m, h1, ?_, fun y my => ?_⟩
    · rcases h2 with rfl | h2
      · exact List.mem_cons_self
      · exact List.mem_cons_of_mem _ h2
    · rcases List.mem_cons.mp my with e | my
      · cases e
        exact h3
      · exact h4 y my
section
variable {rs : List Row}
theorem mine_in {k : Option Int} {r : Row} : r ∈ mineR rs k (partsOf rs) ↔ ∃ i ∈ partsOf rs, rs[i]? = some r ∧ lotI rs i = k := by
  rw [mem_mine]
  constructor
  · rintro ⟨i, mi, er, ek⟩
    exact ⟨i, mi, er, by rw [lotI_at er, ek]⟩
  · rintro ⟨i, mi, er, ek⟩
    exact ⟨i, mi, er, by rw [← lotI_at er, ek]⟩
theorem lz_none {k : Option Int} (h : ¬ HasL rs k) : getG (lzOf rs) k = none := by
  unfold lzOf lzF
  rw [fold_G]
  have : mineR rs k (partsOf rs) = [] := by
    cases c : mineR rs k (partsOf rs) with
    | nil => rfl
    | cons r l =>
      have m : r ∈ mineR rs k (partsOf rs) := by rw [c]; exact List.mem_cons_self
      obtain ⟨i, mi, _, ek⟩ := mine_in.mp m
      exact absurd ⟨i, mi, ek⟩ h
  rw [this]
  rfl
theorem lz_some (ok : ∀ r ∈ rs, r.Ok) {k : Option Int} (h : HasL rs k) : getG (lzOf rs) k = some (some (Ez rs k), Bz rs k) := by
  have hm := h.m
  have ne : mineR rs k (partsOf rs) ≠ [] := by
    obtain ⟨r, mr⟩ := hasM_iff.mp hm
    intro z
    rw [z] at mr
    cases mr
  unfold lzOf lzF
  rw [fold_G, show getG [] k = none from rfl, acc_start k ne]
  have okm : ∀ r ∈ mineR rs k (partsOf rs), r.Ok := fun r m => by
    obtain ⟨i, _, er, _⟩ := mine_in.mp m
    exact ok r (List.mem_of_getElem? er)
  congr 2
  · by_cases nk : k = none
    · subst nk
      refine min_low _ fun e m y ey => ?_
      obtain ⟨r, mr, rfl⟩ := List.mem_map.mp m
      have := (okm r mr).eb y ey
      have := (okm r mr).b0
      omega
    · have e0 : (startG k).1 = none := if_neg nk
      rw [e0]
      obtain ⟨⟨j, mj, lj, ej⟩, up⟩ := E_spec hm nk
      obtain ⟨r, er⟩ := part_row mj
      obtain ⟨m, h1, h2, h3⟩ := min_none ((mineR rs k (partsOf rs)).map (·.e)) ⟨_, List.mem_map.mpr ⟨r, mine_in.mpr ⟨j, mj, er, lj⟩, by rw [← eI_at er, ej]⟩⟩
      rw [h1]
      congr 1
      obtain ⟨r2, mr2, e2⟩ := List.mem_map.mp h2
      obtain ⟨i, mi, er2, li⟩ := mine_in.mp mr2
      refine (E_is nk ⟨i, mi, li, by rw [eI_at er2, e2]⟩ fun i' mi' li' y ey => ?_).symm
      obtain ⟨r3, er3⟩ := part_row mi'
      rw [eI_at er3] at ey
      exact h3 y (List.mem_map.mpr ⟨r3, mine_in.mpr ⟨i', mi', er3, li'⟩, ey⟩)
  · obtain ⟨h1, h2, h3⟩ := max_fold ((mineR rs k (partsOf rs)).map (·.b)) (startG k).2
    have in_ : ((mineR rs k (partsOf rs)).map (·.b)).foldl max2 (startG k).2 ∈ (mineR rs k (partsOf rs)).map (·.b) := by
      rcases h1 with h1 | h1
      · obtain ⟨r, mr⟩ := hasM_iff.mp hm
        have := h3 r.b (List.mem_map.mpr ⟨r, mr, rfl⟩)
        have := (okm r mr).b0
        have e : (startG k).2 = -1 := rfl
        omega
      · exact h1
    obtain ⟨r2, mr2, e2⟩ := List.mem_map.mp in_
    obtain ⟨i, mi, er2, li⟩ := mine_in.mp mr2
    refine (B_is ⟨i, mi, li, by rw [bI_at er2, e2]⟩ fun i' mi' li' => ?_).symm
    obtain ⟨r3, er3⟩ := part_row mi'
    rw [bI_at er3]
    exact h3 _ (List.mem_map.mpr ⟨r3, mine_in.mpr ⟨i', mi', er3, li'⟩, rfl⟩)
end
end K36
end

section
set_option Elab.async false
set_option linter.all false
set_option maxRecDepth 100000
set_option maxHeartbeats 4000000
/-! the lots to which a row of lots leads: the walk -/
namespace K36
open PySem L2 KZ
def keysL (l : LZ) : List (Option Int) := l.map (·.1)
theorem keys_setG (l : LZ) (k : Option Int) (v : Option Int × Int) : keysL (setG l k v) = if k ∈ keysL l then keysL l else keysL l ++ [k] := by
  unfold setG keysL
  by_cases h : k ∈ l.map (·.1)
  · have a : (l.any fun p => decide (p.1 = k)) = true := by
      obtain ⟨p, mp, e⟩ := List.mem_map.mp h
      exact List.any_eq_true.mpr ⟨p, mp, decide_eq_true e⟩
    rw [if_pos a, if_pos h, List.map_map]
    refine List.map_congr_left fun p _ => ?_
    show (if p.1 = k then (p.1, v) else p).1 = p.1
    split <;> rfl
  · have a : ¬ (l.any fun p => decide (p.1 = k)) = true := fun z => by
      obtain ⟨p, mp, e⟩ := List.any_eq_true.mp z
      exact h (List.mem_map.mpr ⟨p, mp, of_decide_eq_true e⟩)
    rw [if_neg a, if_neg h, List.map_append]
    rfl
theorem keys_nd (rs : List Row) : ∀ (ms : List Nat) (l : LZ), (keysL l).Nodup → (keysL (ms.foldl (stepG rs) l)).Nodup
  | [], _, h => h
  | m :: ms, l, h => by
    rw [List.foldl_cons]
    refine keys_nd rs ms _ ?_
    unfold stepG
    split
    · exact h
    · rw [keys_setG]
      split
      · exact h
      · rename_i nm
        rw [List.nodup_append]
        exact ⟨h, by simp, fun a ma b mb e => nm (by rw [← List.mem_singleton.mp mb, ← e]; exact ma)⟩
theorem key_get {l : LZ} {k : Option Int} : k ∈ keysL l ↔ (getG l k).isSome = true := by
  unfold keysL getG
  rw [Option.isSome_map, List.find?_isSome, List.mem_map]
  constructor
  · rintro ⟨p, mp, e⟩
    exact ⟨p, mp, decide_eq_true e⟩
  · rintro ⟨p, mp, e⟩
    exact ⟨p, mp, of_decide_eq_true e⟩
theorem nd_len {α : Type} [DecidableEq α] : ∀ {f l : List α}, f.Nodup → (∀ x ∈ f, x ∈ l) → f.length ≤ l.length
  | [], _, _, _ => Nat.zero_le _
  | x :: f, l, nd, sub => by
    have mx := sub x List.mem_cons_self
    rw [List.nodup_cons] at nd
    have ih := nd_len (l := l.erase x) nd.2 fun y my => (List.mem_erase_of_ne (show y ≠ x from fun e => nd.1 (by rw [← e]; exact my))).mpr (sub y (List.mem_cons_of_mem _ my))
    rw [List.length_erase_of_mem mx] at ih
    have : 0 < l.length := List.length_pos_of_mem mx
    rw [List.length_cons]
    omega
section
variable {rs : List Row}
theorem key_has (ok : ∀ r ∈ rs, r.Ok) {k : Option Int} : k ∈ keysL (lzOf rs) ↔ HasL rs k := by
  rw [key_get]
  constructor
  · intro h
    by_cases z : HasL rs k
    · exact z
    · rw [lz_none z] at h
      cases h
  · intro h
    rw [lz_some ok h]
    rfl
theorem lz_nd : (keysL (lzOf rs)).Nodup := keys_nd rs _ _ List.nodup_nil
structure FI (rs : List Row) (k : Option Int) (t : Nat) (f : List (Option Int)) : Prop where
  hd : ∃ f', f = k :: f'
  nd : f.Nodup
  has : ∀ j ∈ f, HasL rs j
  zr : ∀ j ∈ f, ZR (zonesOf rs) (zoneM rs k) (zoneM rs j)
  lead : ∀ j ∈ f.tail, Leads (zonesOf rs) (zoneM rs k) (zoneM rs j)
  cl : ∀ i j, f[i]? = some j → i < t → ∀ m, HasL rs m → Ez rs j < Bz rs m → m ∈ f
def moreF (rs : List Row) (f : List (Option Int)) (j : Option Int) : List (Option Int) := (keysL (lzOf rs)).filter fun m => !(f.any fun x => decide (x = m)) && decide (Ez rs j < Bz rs m)
theorem any_inO (f : List (Option Int)) (m : Option Int) : (f.any fun x => decide (x = m)) = decide (m ∈ f) := by
  by_cases h : m ∈ f
  · rw [decide_eq_true h]
    exact List.any_eq_true.mpr ⟨m, h, decide_eq_true rfl⟩
  · rw [decide_eq_false h]
    exact List.any_eq_false.mpr fun j mj z => h (of_decide_eq_true z ▸ mj)
theorem mem_more (ok : ∀ r ∈ rs, r.Ok) {f : List (Option Int)} {j m : Option Int} : m ∈ moreF rs f j ↔ HasL rs m ∧ m ∉ f ∧ Ez rs j < Bz rs m := by
  unfold moreF
  rw [List.mem_filter, key_has ok, any_inO, Bool.and_eq_true]
  simp
theorem FI.start {k : Option Int} (h : HasL rs k) : FI rs k 0 [k] :=
  ⟨⟨[], rfl⟩, by simp, fun j m => by rw [List.mem_singleton.mp m]; exact h, fun j m => by rw [List.mem_singleton.mp m]; exact .one, fun j m => (by cases m), fun i j _ l => absurd l (Nat.not_lt_zero i)⟩
theorem zone_mem (ok : ∀ r ∈ rs, r.Ok) (nb : firstBad rs = none) {m : Option Int} (h : HasL rs m) : zoneM rs m ∈ zonesOf rs := by
  obtain ⟨i, mi, rfl⟩ := h
  exact (zones_iff ok nb).mpr ⟨i, mi, rfl⟩
theorem FI.step (ok : ∀ r ∈ rs, r.Ok) (nb : firstBad rs = none) {k j : Option Int} {t : Nat} {f : List (Option Int)} (h : FI rs k t f) (ej : f[t]? = some j) : FI rs k (t + 1) (f ++ moreF rs f j) := by
  obtain ⟨f', rfl⟩ := h.hd
  have mj : j ∈ k :: f' := List.mem_of_getElem? ej
  refine ⟨⟨f' ++ moreF rs (k :: f') j, rfl⟩, ?_, fun m mm => ?_, fun m mm => ?_, fun m mm => ?_, fun i x ex l m hm lt => ?_⟩
  · rw [List.nodup_append]
    exact ⟨h.nd, List.Pairwise.filter _ lz_nd, fun a ma b mb e => ((mem_more ok).mp mb).2.1 (e ▸ ma)⟩
  · rcases List.mem_append.mp mm with mm | mm
    · exact h.has m mm
    · exact ((mem_more ok).mp mm).1
  · rcases List.mem_append.mp mm with mm | mm
    · exact h.zr m mm
    · obtain ⟨a, _, c⟩ := (mem_more ok).mp mm
      exact .more (h.zr j mj) (zone_mem ok nb a) c
  · have mm : m ∈ f' ++ moreF rs (k :: f') j := mm
    rcases List.mem_append.mp mm with mm | mm
    · exact h.lead m mm
    · obtain ⟨a, _, c⟩ := (mem_more ok).mp mm
      exact ⟨_, h.zr j mj, c⟩
  · by_cases e : i = t
    · subst e
      have : (k :: f' ++ moreF rs (k :: f') j)[i]? = some j := by
        rw [List.getElem?_append_left (List.getElem?_eq_some_iff.mp ej).1]
        exact ej
      rw [this] at ex
      cases ex
      by_cases c : m ∈ k :: f'
      · exact List.mem_append_left _ c
      · exact List.mem_append_right _ ((mem_more ok).mpr ⟨hm, c, lt⟩)
    · have il : i < t := by omega
      have tl := (List.getElem?_eq_some_iff.mp ej).1
      rw [List.getElem?_append_left (by omega)] at ex
      exact List.mem_append_left _ (h.cl i x ex il m hm lt)
theorem FI.stay {k : Option Int} {t : Nat} {f : List (Option Int)} (h : FI rs k t f) (l : f.length ≤ t) : FI rs k (t + 1) f :=
  ⟨h.hd, h.nd, h.has, h.zr, h.lead, fun i j e _ => h.cl i j e (Nat.lt_of_lt_of_le (List.getElem?_eq_some_iff.mp e).1 l)⟩
theorem FI.len (ok : ∀ r ∈ rs, r.Ok) {k : Option Int} {t : Nat} {f : List (Option Int)} (h : FI rs k t f) : f.length ≤ (lzOf rs).length := by
  have : f.length ≤ (keysL (lzOf rs)).length := nd_len h.nd fun j m => (key_has ok).mpr (h.has j m)
  unfold keysL at this
  rw [List.length_map] at this
  exact this
theorem FI.fin (ok : ∀ r ∈ rs, r.Ok) (nb : firstBad rs = none) {k : Option Int} {t : Nat} {f : List (Option Int)} (h : FI rs k t f) (l : f.length ≤ t) {j : Option Int} (hj : HasL rs j) (ne : j ≠ k) : j ∈ f.tail ↔ Leads (zonesOf rs) (zoneM rs k) (zoneM rs j) := by
  refine ⟨h.lead j, fun ⟨u, zr, lt⟩ => ?_⟩
  have cl : ∀ j ∈ f, ∀ m, HasL rs m → Ez rs j < Bz rs m → m ∈ f := fun j mj m hm lt => by
    obtain ⟨i, e⟩ := List.mem_iff_getElem?.mp mj
    exact h.cl i j e (Nat.lt_of_lt_of_le (List.getElem?_eq_some_iff.mp e).1 l) m hm lt
  obtain ⟨f', rfl⟩ := h.hd
  have key : ∃ m ∈ k :: f', u = zoneM rs m := by
    clear lt
    induction zr with
    | one => exact ⟨k, List.mem_cons_self, rfl⟩
    | @more u v _ mv lt ih =>
      obtain ⟨m, mm, rfl⟩ := ih
      obtain ⟨i, mi, rfl⟩ := (zones_iff ok nb).mp mv
      exact ⟨lotI rs i, cl m mm _ ⟨i, mi, rfl⟩ lt, rfl⟩
  obtain ⟨m, mm, rfl⟩ := key
  exact (List.mem_cons.mp (cl m mm j hj lt)).resolve_left ne
end
end K36
end

section
set_option Elab.async false
set_option linter.all false
set_option maxRecDepth 100000
set_option maxHeartbeats 4000000
/-! the lots to which a row of lots leads, by the law -/
namespace K36
open PySem L2 KZ
abbrev sAheadOf : Stmt := top 45
def spAheadOf : Sp := fun vs H Q _ => ∃ a rs k, vs = [.ref a, oV k] ∧ RowsAt H a rs ∧ rs.length ≤ 1000 ∧ (∀ r ∈ rs, r.Ok) ∧ firstBad rs = none ∧ HasL rs k ∧
  ∀ (L : Addr) (fs : List (Option Int)) (H' : Hp), Same H H' → H' L = some (.lst (fs.map oV)) → fs.length ≤ 1000 → (∀ j, HasL rs j → j ≠ k → (j ∈ fs ↔ Leads (zonesOf rs) (zoneM rs k) (zoneM rs j))) → Q (.ref L) H'
section
variable {P : Program} {w : World} {K : PySem.W.Frag} {mg : Str → Option Value} {base : Heap}
theorem scAheadOf : FnScope ["rows", "one", "some", "found", "turn", "here", "lot"] ["rows", "one"] (defScope sAheadOf) := ⟨rfl, rfl, rfl, by decide +kernel, rfl, by decide +kernel, by decide +kernel⟩
theorem inV_oV (f : List (Option Int)) (k : Option Int) : inV (oV k) (f.map oV) = f.any fun x => decide (x = k) := by
  unfold inV
  rw [List.any_map]
  congr 1
  funext x
  cases x with
  | none => cases k with
    | none => rfl
    | some y => rfl
  | some x => cases k with
    | none => rfl
    | some y =>
      show (x == y) = decide (some x = some y)
      by_cases e : x = y
      · rw [e, decide_eq_true rfl]; simp
      · rw [decide_eq_false fun z => e (Option.some.inj z)]; simp [e]
theorem oV_flat (f : List (Option Int)) : (f.map oV).all flatV = true := by
  rw [List.all_map]
  exact List.all_eq_true.mpr fun x _ => by cases x <;> rfl
theorem lz_le (rs : List Row) : (lzOf rs).length ≤ rs.length := by
  have h := lzF_len rs (partsOf rs) []
  have := parts_le rs
  unfold lzOf lzF
  simp only [List.length_nil] at h
  omega
theorem ok_aheadof {f : Addr} {fd : FuncData} (F : Fun K "_law_ahead_of" "_law_ahead_of" sAheadOf f fd) (T : B1 mg) (zn : Cal P w K mg base "_law_zones" 2 ["rows"] (spLZones P w)) : FnOk P w K mg base CX0 3 f fd ["rows", "one"] spAheadOf := by
  obtain ⟨fZ, dZ, gZ, GZ, kZ, bZ⟩ := zn.ex
  refine F.ok scAheadOf (fun vs H Q E h => ?_) (fun cdv A' outer s H vs Q E hr h => ?_)
  · obtain ⟨a, rs, k, rfl, _⟩ := h
    rfl
  · obtain ⟨a, rs, k, rfl, hh, hl, ok, nb, hk, q⟩ := h
    have hr2 : Room 2 _ := hr
    refine ⟨_, (pss_cons (ps_asg (pe_tup (pa_cons (pe_call GZ hr2 (by rfl) gZ kZ bZ .nil pass0 (pa_cons (pv 0) pa_nil)) (pa_cons (pe_lst (pa_cons (pv 1) pa_nil)) pa_nil))) (pg_tup rfl (pgs_cons (pg_name (i := 2) scAheadOf.nd rfl (Or.inr rfl)) (pgs_cons (pg_name (i := 3) scAheadOf.nd rfl (Or.inr rfl)) pgs_nil))))
(pss_cons (ps_for PassesOwn.never rfl (pi_range1 (by rfl) T.range (pa_cons (pe_callB (call_lenNK P w) (by rfl) T.len PySem.boot_len (pa_cons (pv 2) pa_nil)) pa_nil)) (pg_name (i := 4) scAheadOf.nd rfl (Or.inl rfl))
(pss_one (ps_if (pt_cmpR op_lt (pv 4) (pe_callB call_len (by rfl) T.len PySem.boot_len (pa_cons (pv 3) pa_nil)) (nomark _))
(pss_cons (ps_set (i := 5) scAheadOf.nd rfl (Or.inr rfl) (pe_ngetK P w (pv 2) (pe_ix (ix_seqK K) (pv 3) (pv 4) (fun _ _ => rfl)) (fun _ _ => rfl)))
(pss_one (ps_set (i := 3) scAheadOf.nd rfl (Or.inr rfl) (pe_op op_cat (pv 3) (pe_lock (pe_lc (own := [("lot", 6)]) (g := gName 6) (by rfl) scAheadOf.nd (pi_nkK P w (pv 2)) (blkOk_by (own := [("lot", 6)]) (N := ["rows", "one", "some", "found", "turn", "here", "lot"]) (sc := defScope sAheadOf) (by decide +kernel)) (fun _ _ _ _ _ => pg_name (i := 6) scAheadOf.nd rfl (Or.inl rfl)) (fun _ _ _ _ _ => pts_one (PW.pt (pw_and (pt_cmpR (op_notIn_seqK K) (pv 6) (pv 3) (by rfl)) (pw_and1 (pt_cmpR op_lt (pe_ix (ix_seqK K) (pv 5) pe_int (fun _ _ => rfl)) (pe_ix (ix_seqK K) (pe_ngetK P w (pv 2) (pv 6) (fun _ _ => rfl)) pe_int (fun _ _ => rfl)) (nomark _)))))) (fun _ _ _ _ _ => pv 6)))))))
pss_nil)))
(pss_one (ps_ret (pe_slice sl_list (pv 3) (po_some pe_int) po_none))))), ?_⟩
    refine ⟨.ref a, rfl, a, rs, rfl, hh, hl, ok, nb, fun S H1 s1 ⟨kvs, hS, zd⟩ => ⟨oV k, rfl, (by show 1 ≤ sizeLine; decide), fun F0 hF0 => ⟨(by show 2 ≤ sizeLine; decide), fun t ht => ?_⟩⟩⟩
    have s2 : Same H (upd (upd H1 F0 (.lst [oV k])) t (.tup [.ref S, .ref F0])) := s1.trans ((same_new hF0).trans (same_new ht))
    have hS2 := same_new (o := .tup [.ref S, .ref F0]) ht _ _ (same_new (o := .lst [oV k]) hF0 _ _ hS)
    have hF2 := same_new (o := .tup [.ref S, .ref F0]) ht _ _ (upd_same (H := H1) (a := F0) (o := .lst [oV k]))
    have ht2 : upd (upd H1 F0 (.lst [oV k])) t (.tup [.ref S, .ref F0]) t = some (.tup [.ref S, .ref F0]) := upd_same
    have zd2 := zd.mono fun p x e => same_new (o := .tup [.ref S, .ref F0]) ht _ _ (same_new (o := .lst [oV k]) hF0 _ _ e)
    generalize upd (upd H1 F0 (.lst [oV k])) t (.tup [.ref S, .ref F0]) = H2 at s2 hS2 hF2 ht2 zd2 ⊢
    refine ⟨t, _, rfl, SqT.of ht2, rfl, _, _, rfl, _, _, rfl, rfl, ?_⟩
    have kl : kvs.length = (lzOf rs).length := Paired.length zd
    have ll := lz_le rs
    refine ⟨.ref S, rfl, S, kvs, rfl, .inl hS2, (kvs.length : Nat), rfl, by omega, by omega, for_range (n := kvs.length) (fun i σ H' => ∃ F f x4 x5, σ = [some (.ref a), some (oV k), some (.ref S), some (.ref F), x4, x5, none] ∧ H' F = some (.lst (f.map oV)) ∧ FI rs k i f ∧ Same H2 H')
      ⟨F0, [k], _, _, rfl, hF2, FI.start hk, Same.refl _⟩ ?_ ?_⟩
    · rintro i σ H3 hi ⟨F, f, x4, x5, rfl, hF, fi, s3⟩
      have fl := fi.len ok
      show gName 4 (V.int (0 + (i : Int))) _ _ _
      rw [Int.zero_add]
      refine ⟨.int i, rfl, .ref F, rfl, .ref F, (f.map oV).length, rfl, .inl ⟨_, SqL.of hF, rfl⟩, _, _, rfl, rfl, _, rfl, ?_⟩
      rw [List.length_map]
      by_cases l : i < f.length
      · rw [decide_eq_true (show (i : Int) < (f.length : Nat) by omega)]
        have ej : f[i]? = some f[i] := List.getElem?_eq_getElem l
        have hj := fi.has f[i] (List.getElem_mem l)
        have step := fi.step ok nb ej
        generalize f[i] = j at ej hj step
        have hS3 := s3 _ _ hS2
        have zd3 := zd2.mono fun p x e => s3 _ _ e
        have zj := zd_val (k := j) zd3
        rw [lz_some ok hj] at zj
        obtain ⟨qz, e1, e2⟩ := zj
        refine iteT' ⟨.ref S, rfl, .ref F, rfl, .int i, rfl, Sq.ix (.inl (SqL.of hF)) (show atI (f.map oV) (i : Int) = some (oV j) from at_nat (by rw [List.getElem?_map, ej]; rfl)) ⟨S, kvs, nk j, .ref qz, rfl, .inl hS3, (nk_v j).symm, e1, ?_⟩⟩
        refine ⟨.ref F, rfl, S, DN P w S kvs, hS3, DN.mut, fun od => ⟨.ref S, rfl, S, od, kvs, rfl, upd_same, fun M hM => ?_⟩⟩
        have nM : M ≠ S := fun z => by rw [z, upd_same] at hM; cases hM
        have nM3 : H3 M = none := by rw [upd_ne nM] at hM; exact hM
        have keep : ∀ (acc : List V) p o, p ≠ S → H3 p = some o → upd (upd H3 S (.frz od (DN P w S kvs))) M (.lst acc) p = some o := fun acc p o n e => by
          rw [upd_ne (ne_of_none e nM3), upd_ne n]
          exact e
        have nFS : F ≠ S := fun z => by rw [z, hS3] at hF; cases hF
        have nqS : ∀ p x, H3 p = some (.tup x) → p ≠ S := fun p x e z => by rw [z, hS3] at e; cases e
        refine lc_it walk_nk (fun i H' => H' = upd (upd H3 S (.frz od (DN P w S kvs))) M (.lst ((((keysL (lzOf rs)).take i).filter fun m => !(f.any fun x => decide (x = m)) && decide (Ez rs j < Bz rs m)).map oV))) rfl (fun i H' _ e => by rw [e, upd_ne nM.symm]; exact upd_same) ?_ ?_
        · rintro n x H8 H9 hn rfl ⟨rfl, kk, vv, hx, rfl⟩
          have hn2 : n < (lzOf rs).length := by rw [← kl]; exact hn
          have hn3 : n < (keysL (lzOf rs)).length := by unfold keysL; rw [List.length_map]; exact hn2
          obtain ⟨ek, _⟩ := paired_at zd3 hn hn2
          rw [List.getElem?_eq_getElem hn] at hx
          have ek2 : kk = nk (keysL (lzOf rs))[n] := by
            have e0 : (keysL (lzOf rs))[n]? = some (lzOf rs)[n].1 := by
              unfold keysL
              rw [List.getElem?_map, List.getElem?_eq_getElem hn2]
              rfl
            have e1 := Option.some.inj ((List.getElem?_eq_getElem hn3).symm.trans e0)
            rw [e1, ← ek, Option.some.inj hx]
          subst ek2
          have tk : ((keysL (lzOf rs)).take (n + 1)).filter (fun m => !(f.any fun x => decide (x = m)) && decide (Ez rs j < Bz rs m)) = ((keysL (lzOf rs)).take n).filter (fun m => !(f.any fun x => decide (x = m)) && decide (Ez rs j < Bz rs m)) ++ (if (!(f.any fun x => decide (x = (keysL (lzOf rs))[n])) && decide (Ez rs j < Bz rs (keysL (lzOf rs))[n])) = true then [(keysL (lzOf rs))[n]] else []) := by
            rw [List.take_add_one, List.getElem?_eq_getElem hn3, List.filter_append]
            congr 1
            show List.filter _ [(keysL (lzOf rs))[n]] = _
            rw [List.filter_cons]
            rfl
          have ln : ((((keysL (lzOf rs)).take n).filter fun m => !(f.any fun x => decide (x = m)) && decide (Ez rs j < Bz rs m)).map oV).length < sizeLine := by
            rw [List.length_map]
            refine Nat.lt_of_le_of_lt (Nat.le_trans (List.length_filter_le _ _) (show _ ≤ 1000 from ?_)) (by decide)
            rw [List.length_take]
            omega
          have hm := (key_has ok).mp (List.getElem_mem hn3)
          rw [tk]
          generalize (keysL (lzOf rs))[n] = m at hm ⊢
          generalize ((keysL (lzOf rs)).take n).filter (fun m => !(f.any fun x => decide (x = m)) && decide (Ez rs j < Bz rs m)) = us at ln ⊢
          have zm := zd_val (k := m) zd3
          rw [lz_some ok hm] at zm
          obtain ⟨qm, f1, f2⟩ := zm
          have kF := keep (us.map oV) _ _ nFS hF
          have kz := keep (us.map oV) _ _ (nqS _ _ e2) e2
          have km := keep (us.map oV) _ _ (nqS _ _ f2) f2
          have kS : upd (upd H3 S (.frz od (DN P w S kvs))) M (.lst (us.map oV)) S = some (.frz od (DN P w S kvs)) := by rw [upd_ne nM.symm]; exact upd_same
          refine ⟨rfl, nV (nk m), rfl, .ref F, rfl, F, _, rfl, .inl (SqL.of kF), (by cases m <;> rfl), oV_flat f, _, rfl, ?_⟩
          rw [if_pos rfl, nk_v, inV_oV]
          cases c1 : (f.any fun x => decide (x = m)) with
          | true =>
            refine iteF' (iteF' ?_)
            show _ = _
            rw [if_neg (fun z => nomatch z), List.append_nil]
          | false =>
            refine iteT' ⟨.ref qz, rfl, Sq.ix (.inr (SqT.of kz)) (show atI _ 0 = some (.int (Ez rs j)) from at_nat (i := 0) rfl) ⟨.ref S, rfl, oV m, rfl, S, kvs, nk m, .ref qm, rfl, .inr ⟨od, kS⟩, (nk_v m).symm, f1, Sq.ix (.inr (SqT.of km)) (show atI _ 1 = some (.int (Bz rs m)) from at_nat (i := 1) rfl) ⟨_, _, rfl, rfl, decide (Ez rs j < Bz rs m), rfl, ?_⟩⟩⟩
            cases c2 : decide (Ez rs j < Bz rs m) with
            | false =>
              refine iteF' ?_
              show _ = _
              rw [if_neg (fun z => nomatch z), List.append_nil]
            | true =>
              refine iteT' ⟨oV m, rfl, _, upd_same, ln, ?_⟩
              rw [upd_upd, if_pos (show (!false && true) = true from rfl), List.map_append]
              rfl
        · rintro H8 rfl
          have e8 : (keysL (lzOf rs)).take kvs.length = keysL (lzOf rs) := by
            rw [kl]
            unfold keysL
            rw [List.take_of_length_le (by rw [List.length_map]; exact Nat.le_refl _)]
          rw [e8]
          refine ⟨by rw [upd_ne nM.symm]; exact upd_same, ?_⟩
          have bk : upd (upd (upd H3 S (.frz od (DN P w S kvs))) M (.lst ((moreF rs f j).map oV))) S (DN P w S kvs) = upd H3 M (.lst ((moreF rs f j).map oV)) := by
            funext x
            unfold upd
            by_cases x1 : x = S
            · subst x1
              rw [if_pos rfl, if_neg nM.symm]
              exact hS3.symm
            · rw [if_neg x1]
              by_cases x2 : x = M
              · rw [if_pos x2, if_pos x2]
              · rw [if_neg x2, if_neg x2, if_neg x1]
          show rCat _ _ (upd (upd (upd H3 S (.frz od (DN P w S kvs))) M (.lst ((moreF rs f j).map oV))) S (DN P w S kvs)) _
          rw [bk]
          have s4 : Same H3 (upd H3 M (.lst ((moreF rs f j).map oV))) := same_new nM3
          have fl2 := step.len ok
          rw [List.length_append] at fl2
          refine ⟨F, M, _, _, rfl, rfl, s4 _ _ hF, upd_same, ?_, fun L3 hL3 => ⟨L3, f ++ moreF rs f j, _, _, rfl, by rw [upd_same, List.map_append], step, s3.trans (s4.trans (same_new hL3))⟩⟩
          rw [List.length_map, List.length_map]
          exact Nat.le_trans (show _ ≤ 1000 by omega) (by decide)
      · rw [decide_eq_false (show ¬ (i : Int) < (f.length : Nat) by omega)]
        exact iteF' ⟨F, f, _, _, rfl, hF, fi.stay (by omega), s3⟩
    · rintro σ H3 ⟨F, f, x4, x5, rfl, hF, fi, s3⟩
      have fl := fi.len ok
      refine ⟨.ref F, rfl, 1, rfl, F, _, rfl, SqL.of hF, fun L hL => ?_⟩
      have ec : cutV (f.map oV) (some 1) none = f.tail.map oV := by
        obtain ⟨f', rfl⟩ := fi.hd
        unfold cutV
        rw [show HT.sIx ((k :: f').map oV).length 0 (some 1) = 1 from by
          have := HT.sIx_nat ((k :: f').map oV).length 0 1
          rw [show ((1 : Nat) : Int) = 1 from rfl] at this
          rw [this, Nat.min_eq_left (by rw [List.length_map, List.length_cons]; omega)], HT.sIx_none]
        show ((f'.map oV).take (((k :: f').map oV).length - 1)) = f'.map oV
        rw [List.take_of_length_le]
        rw [List.length_map, List.length_map, List.length_cons]
        omega
      refine q L f.tail _ (s2.trans (s3.trans (same_new hL))) (by rw [upd_same, ec]) (by rw [List.length_tail]; omega) fun j hj ne => fi.fin ok nb (by omega) hj ne
end
end K36
end

section
set_option Elab.async false
set_option linter.all false
set_option maxRecDepth 100000
set_option maxHeartbeats 4000000
/-! what is sure, by the law's lots -/
namespace K36
open PySem L2 KZ
abbrev sLSure : Stmt := top 46
def spLSure : Sp := fun vs H Q _ => ∃ (a : Addr) (rs : List Row) (i j : Nat), vs = [.ref a, .int i, .int j] ∧ RowsAt H a rs ∧ rs.length ≤ 1000 ∧ (∀ r ∈ rs, r.Ok) ∧ firstBad rs = none ∧ i ∈ partsOf rs ∧ j ∈ partsOf rs ∧ Orderly rs ∧
  ∀ b H', Same H H' → (b = true ↔ Sure rs i j) → Q (.bl b) H'
section
variable {P : Program} {w : World} {K : PySem.W.Frag} {mg : Str → Option Value} {base : Heap}
theorem scLSure : FnScope ["rows", "one", "other", "lot", "there", "at"] ["rows", "one", "other"] (defScope sLSure) := ⟨rfl, rfl, rfl, by decide +kernel, rfl, by decide +kernel, by decide +kernel⟩
theorem ok_lsure {f : Addr} {fd : FuncData} (F : Fun K "_law_sure" "_law_sure" sLSure f fd) (T : B1 mg) (fa : Cal P w K mg base "_law_ahead_of" 3 ["rows", "one"] spAheadOf) (ah : Cal P w K mg base "_law_ahead" 1 ["one", "other"] spLAhead) : FnOk P w K mg base CX0 4 f fd ["rows", "one", "other"] spLSure := by
  obtain ⟨fF, dF, gF, GF, kF, bF⟩ := fa.ex
  obtain ⟨fA, dA, gA, GA, kA, bA⟩ := ah.ex
  refine F.ok scLSure (fun vs H Q E h => ?_) (fun cdv A' outer s H vs Q E hr h => ?_)
  · obtain ⟨a, rs, i, j, rfl, _⟩ := h
    rfl
  · obtain ⟨a, rs, i, j, rfl, hh, hl, ok, nb, mi, mj, od, q⟩ := h
    have hr3 : Room 3 _ := hr
    have hr1 : Room 1 _ := hr.mono (by decide)
    refine ⟨_, (pss_cons (ps_asg (pe_lc (own := [("at", 5)]) (g := gName 5) (tt := tYes) (by rfl) scLSure.nd (pi_sq (pe_tup (pa_cons (pv 1) (pa_cons (pv 2) pa_nil)))) (blkOk_by (own := [("at", 5)]) (N := ["rows", "one", "other", "lot", "there", "at"]) (sc := defScope sLSure) (by decide +kernel)) (fun _ _ _ _ _ => pg_name (i := 5) scLSure.nd rfl (Or.inl rfl)) (fun _ _ _ _ _ => pts_nil) (fun _ _ _ _ _ => pe_ifExp (pt_cmpR op_eq (pe_ix (ix_seqK K) (pe_ix (ix_seqK K) (pv 0) (pv 5) (fun _ _ => rfl)) pe_int (fun _ _ => rfl)) pe_str (nomark _)) (pv 5) (pe_ix (ix_seqK K) (pe_ix (ix_seqK K) (pv 0) (pv 5) (fun _ _ => rfl)) pe_int (fun _ _ => rfl)))) (pg_lst rfl (pgs_cons (pg_name (i := 3) scLSure.nd rfl (Or.inl rfl)) (pgs_cons (pg_name (i := 4) scLSure.nd rfl (Or.inl rfl)) pgs_nil))))
(pss_cons (ps_if (pt_cmpR op_ne (pv 3) (pv 4) (nomark _))
(pss_one (ps_ret (pe_cmpR op_in_seq (pv 4) (pe_call GF hr3 (by rfl) gF kF bF .nil pass0 (pa_cons (pv 0) (pa_cons (pv 3) pa_nil))) (by rfl))))
pss_nil)
(pss_cons (ps_if (PW.pt (pw_or (pt_cmpR op_eq (pe_ix (ix_seqK K) (pe_ix (ix_seqK K) (pv 0) (pv 1) (fun _ _ => rfl)) pe_int (fun _ _ => rfl)) pe_str (nomark _)) (pw_or1 (pt_cmpR op_eq (pe_ix (ix_seqK K) (pe_ix (ix_seqK K) (pv 0) (pv 2) (fun _ _ => rfl)) pe_int (fun _ _ => rfl)) pe_str (nomark _)))))
(pss_one (ps_ret (pe_and (pe_cmpR op_ne (pv 1) (pv 2) (nomark _)) (pe_one (pe_cmpR op_eq (pe_ix (ix_seqK K) (pe_ix (ix_seqK K) (pv 0) (pv 1) (fun _ _ => rfl)) pe_int (fun _ _ => rfl)) pe_str (nomark _))))))
pss_nil)
(pss_one (ps_ret (pe_call GA hr1 (by rfl) gA kA bA .nil pass0 (pa_cons (pe_ix (ix_seqK K) (pv 0) (pv 1) (fun _ _ => rfl)) (pa_cons (pe_ix (ix_seqK K) (pv 0) (pv 2) (fun _ _ => rfl)) pa_nil)))))))), ?_⟩
    obtain ⟨r, er⟩ := part_row mi
    obtain ⟨t, et⟩ := part_row mj
    refine ⟨.int i, rfl, .int j, rfl, (by show 2 ≤ sizeLine; decide), fun T0 hT0 => ⟨T0, _, rfl, .inr (SqT.of upd_same), fun J G wk hG D hD => ?_⟩⟩
    have s1 : Same H (upd H T0 (.tup [.int i, .int j])) := same_new hT0
    generalize upd H T0 (.tup [.int i, .int j]) = H1 at s1 hG hD ⊢
    have hh1 := hh.mono s1
    have one : ∀ (k : Nat) (r : Row) (acc : List V) (H2 : Hp) (Qv : VK), rs[k]? = some r → Same H1 H2 → Qv (oV (lotOf r k)) H2 → tIf (tTest (tOp rEq (tOp (rIx K) (tOp (rIx K) (tVar 0) (tVar 5)) (tC (.int 1))) (tC (.str "put")))) (tVar 5) (tOp (rIx K) (tOp (rIx K) (tVar 0) (tVar 5)) (tC (.int 4)))
        [some (.ref a), some (.int i), some (.int j), none, none, some (.int k)] H2 Qv := fun k r acc H2 Qv e s2 qv => by
      obtain ⟨p, xs, sq, at1, hp⟩ := (hh1.mono s2).at (K := K) e
      have sqp : Sq K H2 p (rowV r) := .inr (SqT.of hp)
      refine ⟨.ref a, rfl, .int k, rfl, Sq.ix (.inl sq) at1 (Sq.ix sqp (show atI (rowV r) 1 = some (.str (wd r.g)) from at_nat (i := 1) rfl) ⟨rfl, !r.g, (by cases r.g <;> decide +kernel), ?_⟩)⟩
      unfold lotOf at qv
      cases hg : r.g with
      | true =>
        rw [hg, if_pos rfl] at qv
        exact iteF' ⟨.ref a, rfl, .int k, rfl, Sq.ix (.inl sq) at1 (Sq.ix sqp (show atI (rowV r) 4 = some (oV r.t) from at_nat (i := 4) rfl) qv)⟩
      | false =>
        rw [hg, if_neg (by decide)] at qv
        exact iteT' ⟨_, rfl, qv⟩
    refine lc_it wk (fun n H' => H' = upd H1 D (.lst ([oV (lotOf r i), oV (lotOf t j)].take n))) rfl (fun n H' _ e => hG _ (by rw [e]; exact same_new hD)) ?_ ?_
    · rintro n x H2 H3 hn rfl ⟨rfl, hx⟩
      match n, hn, hx with
      | 0, _, hx =>
        cases hx
        refine ⟨rfl, yes_go (one i r [] _ _ er (same_new hD) ⟨_, upd_same, (by show 0 < sizeLine; decide), ?_⟩)⟩
        rw [upd_upd]
        rfl
      | 1, _, hx =>
        cases hx
        refine ⟨rfl, yes_go (one j t [] _ _ et (same_new hD) ⟨_, upd_same, (by show 1 < sizeLine; decide), ?_⟩)⟩
        rw [upd_upd]
        rfl
    rintro H2 rfl
    have s2 : Same H (upd H1 D (.lst [oV (lotOf r i), oV (lotOf t j)])) := s1.trans (same_new hD)
    have hD2 : upd H1 D (.lst [oV (lotOf r i), oV (lotOf t j)]) D = some (.lst [oV (lotOf r i), oV (lotOf t j)]) := upd_same
    show gLst _ _ _ _ _ (upd H1 D (.lst [oV (lotOf r i), oV (lotOf t j)])) _
    generalize upd H1 D (.lst [oV (lotOf r i), oV (lotOf t j)]) = H2 at s2 hD2 ⊢
    have hh2 := hh.mono s2
    refine ⟨D, _, rfl, SqL.of hD2, rfl, _, _, rfl, _, _, rfl, rfl, ?_⟩
    refine ⟨oV (lotOf r i), rfl, oV (lotOf t j), rfl, (by cases lotOf r i <;> cases lotOf t j <;> rfl), _, rfl, ?_⟩
    rw [eq_oV]
    by_cases ne : lotOf r i = lotOf t j
    · rw [decide_eq_true ne]
      refine iteF' ?_
      obtain ⟨p, xs, sq, at1, hp⟩ := hh2.at (K := K) er
      obtain ⟨p2, xs2, sq2, at2, hp2⟩ := hh2.at (K := K) et
      have sqp : Sq K H2 p (rowV r) := .inr (SqT.of hp)
      have sqp2 : Sq K H2 p2 (rowV t) := .inr (SqT.of hp2)
      have w1 : atI (rowV r) 1 = some (.str (wd r.g)) := at_nat (i := 1) rfl
      have w2 : atI (rowV t) 1 = some (.str (wd t.g)) := at_nat (i := 1) rfl
      have se : Sure rs i j ↔ if r.g = false then i ≠ j else ahead r t = true := by rw [sure_iff er et, if_neg (fun z => z ne)]
      have q : ∀ b : Bool, (b = true ↔ if r.g = false then i ≠ j else ahead r t = true) → Q (.bl b) H2 := fun b h => q b H2 s2 (h.trans se.symm)
      have dw : decide (V.str (wd r.g) = V.str "put") = !r.g := by cases r.g <;> decide +kernel
      have dij : decide (V.int (i : Int) = V.int (j : Int)) = decide (i = j) := by
        by_cases e : i = j
        · rw [decide_eq_true e, decide_eq_true (by rw [e])]
        · rw [decide_eq_false e, decide_eq_false (show ¬ V.int (i : Int) = V.int (j : Int) from fun z => e (Int.ofNat.inj (V.int.inj z)))]
      dsimp only [tNext, tSeq]
      refine ⟨.ref a, rfl, .int i, rfl, Sq.ix (.inl sq) at1 (Sq.ix sqp w1 ⟨rfl, !r.g, (by cases r.g <;> decide +kernel), ?_⟩)⟩
      cases hg : r.g with
      | false =>
        refine iteT' (iteT' ⟨.int i, rfl, .int j, rfl, rfl, !decide (i = j), by rw [dij], ?_⟩)
        by_cases e : i = j
        · rw [decide_eq_true e]
          exact iteF' (q false (by rw [hg, if_pos rfl]; exact ⟨fun z => (by cases z), fun z => absurd e z⟩))
        · rw [decide_eq_false e]
          exact iteT' ⟨.ref a, rfl, .int i, rfl, Sq.ix (.inl sq) at1 (Sq.ix sqp w1 ⟨rfl, q _ (by rw [dw, hg, if_pos rfl]; exact ⟨fun _ => e, fun _ => rfl⟩)⟩)⟩
      | true =>
        refine iteF' ⟨.ref a, rfl, .int j, rfl, Sq.ix (.inl sq2) at2 (Sq.ix sqp2 w2 ⟨rfl, !t.g, (by cases t.g <;> decide +kernel), ?_⟩)⟩
        cases hg2 : t.g with
        | false =>
          refine iteT' ⟨.int i, rfl, .int j, rfl, rfl, !decide (i = j), by rw [dij], ?_⟩
          have na : ahead r t = false := by
            have lt : r.t = some (j : Int) := by
              unfold lotOf at ne
              rw [if_pos hg, if_neg (by rw [hg2]; exact fun z => nomatch z)] at ne
              exact ne
            have e0 := isEarly_of er lt et
            cases c : ahead r t with
            | false => rfl
            | true =>
              have : i ∈ earlyOf rs := List.mem_filter.mpr ⟨List.mem_range.mpr (List.getElem?_eq_some_iff.mp er).1, e0.trans c⟩
              rw [od.1] at this
              cases this
          by_cases e : i = j
          · rw [decide_eq_true e]
            exact iteF' (q false (by rw [hg, if_neg (fun z => nomatch z), na]))
          · rw [decide_eq_false e]
            exact iteT' ⟨.ref a, rfl, .int i, rfl, Sq.ix (.inl sq) at1 (Sq.ix sqp w1 ⟨rfl, q _ (by rw [dw, hg, if_neg (fun z => nomatch z), na]; rfl)⟩)⟩
        | true =>
          refine iteF' ⟨.ref a, rfl, .int i, rfl, Sq.ix (.inl sq) at1 ⟨.ref a, rfl, .int j, rfl, Sq.ix (.inl sq2) at2 ⟨p, p2, r, t, rfl, hp, hp2, ?_⟩⟩⟩
          exact q _ (by rw [if_neg (by rw [hg]; exact fun z => nomatch z)])
    · rw [decide_eq_false ne]
      have hi : HasL rs (lotOf r i) := ⟨i, mi, lotI_at er⟩
      have hj : HasL rs (lotOf t j) := ⟨j, mj, lotI_at et⟩
      refine iteT' ⟨oV (lotOf t j), rfl, .ref a, rfl, oV (lotOf r i), rfl, a, rs, lotOf r i, rfl, hh2, hl, ok, nb, hi, fun L fs H3 s3 hL _ iff_ => ⟨L, _, rfl, .inl (SqL.of hL), (by cases lotOf t j <;> rfl), oV_flat fs, ?_⟩⟩
      refine q _ H3 (s2.trans s3) ?_
      rw [if_neg (by decide), inV_oV, any_inO, decide_eq_true_iff, iff_ _ hj (Ne.symm ne), sure_iff er et, if_pos ne]
      unfold zoneOf
      rw [zone_eq ok hi.m, zone_eq ok hj.m]
end
end K36
end

section
set_option Elab.async false
set_option linter.all false
set_option maxRecDepth 100000
set_option maxHeartbeats 4000000
/-! tables of code objects; asks that are made -/
namespace K36
open PySem PySem.Spec PyProof.Rows L2 KZ
/-- as okG, the def's code object known -/
theorem okGc {P : Program} {w : World} {K : PySem.W.Frag} {mg : Str → Option Value} {base : Heap} {x qual : Str} {st : Stmt} {f c : Addr} {fd : FuncData} {N ps : List Str} {k : Nat} {sp : Sp} (F : Fun K x qual st f fd) (hc : fd.code = .ref c) (S : FnScope N ps (defScope st))
    (len : ∀ vs H Q E, sp vs H Q E → vs.length = ps.length)
    (hbody : ∀ (A : Around) (out : List Env) (s : Shared) (H : Hp) (vs : List V) (Q : VK) (E : XK), A.guards = some [] → Room k (A.deeper (envOfC qual (defScope st) s.heap.objs.size f (.ref c))) → sp vs H Q E →
      ∃ t, PSs (cxOf CX0 P w K mg base N qual (defScope st) f (.ref c) A out s H E).nox (defBody st) t ∧ t { nx := fun _ H' => Q .non H', rt := Q } (start N vs) H) : FnG P w K mg base CX0 (k + 1) f fd ps sp := by
  obtain ⟨oc, od, kV, doc, pm, an, cdv, ct, osl, rfl, lk, hcd⟩ := F.ex
  obtain rfl : cdv = .ref c := hc
  refine ⟨len, fun A out s H ar us vs Q E hgd hr e0 hb r hsp => LamX.run_ofS (N := N) lk hcd S hr e0 hb r (len _ _ _ _ hsp) fun hr' => ?_⟩
  obtain ⟨t, ht, q⟩ := hbody A out s H vs Q E hgd hr' hsp
  exact ⟨t, ht.nox, q⟩
theorem pen_ext {H H' : Hp} {p c : Addr} {cells : List Int} {n : Nat} (h : PenAt H p c cells n) (e : LamX.ExtN H H') : PenAt H' p c cells n := by
  obtain ⟨a, g, h1, h2, h3, h4⟩ := h.ex
  exact ⟨⟨a, g, e _ _ h1 (fun _ z => nomatch z), h2, h3, h4⟩, e _ _ h.cs (fun _ z => nomatch z), h.few, h.ne⟩
theorem tabs_same {T : List (Addr × Str)} {H H' : Hp} (h : LamX.Tabs T H) (s : Same H H') : LamX.Tabs T H' := h.ext s
theorem tabs_kept {T : List (Addr × Str)} {H H' : Hp} {p c : Addr} {cells : List Int} {n : Nat} (h : LamX.Tabs T H) (pen : PenAt H p c cells n) (k : Kept p H H') : LamX.Tabs T H' := fun t ht => by
  obtain ⟨ps, h1, h2, h3⟩ := h t ht
  obtain ⟨a, g, hp, _⟩ := pen.ex
  refine ⟨ps, k _ _ (fun z => by rw [z, hp] at h1; cases h1) h1, h2, fun pos cv hc => ?_⟩
  obtain ⟨c, e1, e2⟩ := h3 pos cv hc
  exact ⟨c, e1, k _ _ (fun z => by
    rw [z, hp] at e2
    have e3 := Option.some.inj e2
    have e4 : HO.lst _ = HO.ext _ := e3
    cases e4) e2⟩
theorem tabs_lst {T : List (Addr × Str)} {H : Hp} {l : Addr} {xs ys : List V} (h : LamX.Tabs T H) (hl : H l = some (.lst xs)) : LamX.Tabs T (upd H l (.lst ys)) := fun p hp => by
  obtain ⟨ps, h1, h2, h3⟩ := h p hp
  refine ⟨ps, by rw [upd_ne (fun z => by rw [z, hl] at h1; cases h1)]; exact h1, h2, fun pos cv hc => ?_⟩
  obtain ⟨c, e1, e2⟩ := h3 pos cv hc
  exact ⟨c, e1, by
    rw [upd_ne (fun z => by
      rw [z, hl] at e2
      have e3 := Option.some.inj e2
      have e4 : HO.lst xs = HO.ext _ := e3
      cases e4)]
    exact e2⟩
/-- a def with lambdas: its code object, its table -/
structure LamAt (T0 : List (Addr × Str)) (base : Heap) (mg : Str → Option Value) (cc Pt : Addr) (q : Str) : Prop where
  tb : LamX.TabB base mg cc Pt
  mem : (Pt, q ++ "<lambda>") ∈ T0
  uq : ∀ p ∈ T0, p.1 = Pt → p.2 = q ++ "<lambda>"
abbrev psI : List Str := ["self", "client", "word", "begun", "ended", "told"]
/-- Ask(..), as it is called -/
structure InitF (P : Program) (w : World) (K : PySem.W.Frag) (mg : Str → Option Value) (base : Heap) (C cB : Addr) : Prop where
  ex : ∃ f fd, Mk K C f ∧ FnOk P w K mg base (L2.CX P w) 8 f fd psI (spInit K C cB) ∧ Binds K fd psI [] ∧ (∃ ds, Vals [V.non] ds ∧ Binds K fd psI ds) ∧ (∃ ds, Vals [V.non, V.non] ds ∧ Binds K fd psI ds) ∧
    (∃ g, KBn K fd psI 1 ["told", "ended", "begun", "word", "client"] g fun vs zs => vs ++ zs.reverse) ∧ ∃ g, KBn K fd psI 4 ["ended", "told"] g fun vs zs => vs ++ zs
section
variable {K : PySem.W.Frag} {C cB : Addr}
theorem same2 {H : Hp} {x dx : Addr} {o u : HO} (hx : H x = none) (hdx : H dx = none) (ne : dx ≠ x) : Same H (upd (upd H dx o) x u) :=
  (same_new hdx).trans (same_new (by rw [upd_ne ne.symm]; exact hx))
theorem mk_go {H : Hp} {x dx : Addr} {vc vw vb ve vt : V} {dc dw db de dt : PyData} {Q : VK} {E : XK} (hx : H x = none) (hdx : H dx = none) (ne : dx ≠ x) (gc : Dv K H vc dc) (sz : ∀ y, dc = .str y → y.length ≤ 1000) (gw : Dv K H vw dw) (nw : nod dw = true) (sw : SeqAt.shaped dw = true)
    (gb : Dv K H vb db) (ge : Dv K H ve de) (gt : Dv K H vt dt) (good : ∀ r : Row, r.Ok → dc = .str r.c → dw = .str (wd r.g) → db = .int r.b → de = oD r.e → dt = oD r.t → ∀ H', Same H H' → AskAt C H' x r → Q .non H')
    (no : ∀ p, bad dc dw db de dt = some p → OutF cB [("part", .str p)] H E) : spInit K C cB [.ref x, vc, vw, vb, ve, vt] (upd (upd H dx (.own x)) x (.ins C dx [])) Q E := by
  have s2 : Same H (upd (upd H dx (.own x)) x (.ins C dx [])) := same2 hx hdx ne
  exact ⟨x, dx, vc, dc, vw, dw, vb, db, ve, de, vt, dt, rfl, upd_same, Dv.mono s2 gc, sz, Dv.mono s2 gw, nw, sw, Dv.mono s2 gb, Dv.mono s2 ge, Dv.mono s2 gt,
    fun r ok e1 e2 e3 e4 e5 H' keep ask => good r ok e1 e2 e3 e4 e5 H' (fun b o e => keep b o (ne_of_none e hx) (s2 b o e)) ask, fun p h => (no p h).at s2⟩
theorem row_of {r r' : Row} (e1 : PyData.str r.c = .str r'.c) (e2 : PyData.str (wd r.g) = .str (wd r'.g)) (e3 : PyData.int r.b = .int r'.b) (e4 : oD r.e = oD r'.e) (e5 : oD r.t = oD r'.t) : r' = r := by
  obtain ⟨c1, g1, b1, e1', t1⟩ := r
  obtain ⟨c2, g2, b2, e2', t2⟩ := r'
  have h1 : c1 = c2 := PyData.str.inj e1
  have h2 : g1 = g2 := by
    have h : wd g1 = wd g2 := PyData.str.inj e2
    clear e1 e2 e3 e4 e5
    cases g1 <;> cases g2
    · rfl
    · exact absurd h (show ¬ wd false = wd true by decide +kernel)
    · exact absurd h (show ¬ wd true = wd false by decide +kernel)
    · rfl
  have h3 : b1 = b2 := PyData.int.inj e3
  have h4 : e1' = e2' := by
    cases e1' <;> cases e2' <;> first | rfl | (cases e4; done) | (cases e4; rfl)
  have h5 : t1 = t2 := by
    cases t1 <;> cases t2 <;> first | rfl | (cases e5; done) | (cases e5; rfl)
  rw [h1, h2, h3, h4, h5]
/-- the ask of a row that is right -/
theorem mk_row {H : Hp} {x dx : Addr} {r : Row} {Q : VK} {E : XK} (ok : r.Ok) (cl : r.c.length ≤ 1000) (hx : H x = none) (hdx : H dx = none) (ne : dx ≠ x) (good : ∀ H', Same H H' → AskAt C H' x r → Q .non H') :
    spInit K C cB [.ref x, .str r.c, .str (wd r.g), .int r.b, oV r.e, oV r.t] (upd (upd H dx (.own x)) x (.ins C dx [])) Q E :=
  mk_go hx hdx ne (.str _) (fun y e => by cases e; exact cl) (.str _) rfl (by cases r.g <;> decide +kernel) (.int _) (oD_dv _) (oD_dv _) (fun r' ok' e1 e2 e3 e4 e5 H' s' ask => good H' s' (by rw [row_of e1 e2 e3 e4 e5] at ask; exact ask)) fun p h => by
    rw [bad_of ok] at h
    cases h
end
structure HeardF (K : PySem.W.Frag) (mg : Str → Option Value) (cO cB cT cC : Addr) : Prop where
  ex : ∃ f fd, mg "_law_heard" = some (.ref f) ∧ Fun K "_law_heard" "_law_heard" sHeard f fd ∧ Binds K fd ["work"] []
  gO : mg "OpenError" = some (.ref cO)
  gB : mg "BadAsk" = some (.ref cB)
  gT : mg "TooMany" = some (.ref cT)
  gC : mg "Clashing" = some (.ref cC)
  EB : HErr K cO cB cT cC
theorem pe_heard {X : Cx} {cO cB cT cC c Pt : Addr} {T0 : List (Addr × Str)} {t : XK → TE} {params : Arguments} {body : Expr} {scope : Scope} {p lpos pos : Pos} (HF : HeardF X.K X.mg cO cB cT cC) (LA : LamAt T0 X.base X.mg c Pt X.env.qual) (T : B1 X.mg) (hr : Room 12 X.A)
    (hg : Gl X "_law_heard") (hcode : X.env.code = .ref c) (L : LamX.LamS X.env.scope scope) (hdef : defaultsOf params X.env = ([], []))
    (hbind : ∀ (q : Str) (cl : List (Str × Addr)) (pm cv ctv : Value), bindArgs (PySem.W.kla_fn "<lambda>" q params body scope cl pm cv ctv) ⟨[], []⟩ = pure [])
    (hbody : ∀ (A : Around) (outer : List Env) (s : Shared) (H : Hp) (E : XK) (f c' : Addr), Room 10 (A.deeper (LamX.lamEnv X scope s.heap.objs.size f c')) → PE (LamX.lamCx X A outer s H E scope f c') body (t E)) :
    PE X (.Call (.Name "_law_heard" p) [.Lambda params body scope lpos] [] pos) (LamX.tLam T0 (TTh cB cT cC) t) := by
  obtain ⟨fH, dH, gH, FH, bH0⟩ := HF.ex
  have kH := FH.kp
  obtain ⟨ocH, odH, kVH, docH, pmH, anH, cdvH, ctH, oslH, rfl, lkH, hcH⟩ := FH.ex
  exact LamX.pe_lamcall (t := t) (T := T0) (Ng := ["work", "caught", "found", "error"]) (k := 10) hg gH kH lkH hcH bH0 scHeard rfl (Or.inl rfl) (heard_gives (X := X) rfl (hr.mono (by decide)) HF.gO HF.gB HF.gT HF.gC T HF.EB) LA.tb hcode LA.mem LA.uq hr L hdef hbind hbody
end K36
end

section
set_option Elab.async false
set_option linter.all false
set_option maxRecDepth 100000
set_option maxHeartbeats 4000000
/-! asks that an order leads -/
namespace K36
open PySem L2 KZ
/-- pl: where the ask of each spot stands -/
structure Led (rs : List Row) (pl : List Nat) : Prop where
  inj : pl.Nodup
  lt : ∀ k ∈ pl, k < rs.length
  all : ∀ k, k < rs.length → k ∈ pl
  len : pl.length = rs.length
  pts : ∃ pt : Nat → Int, (∀ s t, s ≤ t → pt s ≤ pt t) ∧ ∀ s k, pl[s]? = some k → ∃ r, rs[k]? = some r ∧ r.c = ("a" : Str) ∧ 0 ≤ r.b ∧ r.b ≤ pt s ∧ (∃ e, r.e = some e ∧ pt s < e) ∧ r.t = (if r.g = true then OM.lastP (isPutAt rs) none (pl.take s) else none)
section
variable {rs : List Row} {pl : List Nat}
theorem Led.at (L : Led rs pl) {k : Nat} (h : k < rs.length) : ∃ s : Nat, pl[s]? = some k := by
  obtain ⟨s, hs, e⟩ := List.mem_iff_getElem.mp (L.all k h)
  exact ⟨s, by rw [List.getElem?_eq_getElem hs, e]⟩
theorem Led.row (L : Led rs pl) {k : Nat} {r : Row} (h : rs[k]? = some r) : r.c = ("a" : Str) ∧ 0 ≤ r.b ∧ (∃ e, r.e = some e ∧ r.b < e) ∧ ∃ s : Nat, pl[s]? = some k ∧ r.t = (if r.g = true then OM.lastP (isPutAt rs) none (pl.take s) else none) := by
  obtain ⟨s, es⟩ := L.at (List.getElem?_eq_some_iff.mp h).1
  obtain ⟨pt, _, f⟩ := L.pts
  obtain ⟨r', er, c, b0, b1, ⟨e, e1, e2⟩, ht⟩ := f s k es
  rw [h] at er
  cases er
  exact ⟨c, b0, ⟨e, e1, by omega⟩, s, es, ht⟩
theorem Led.told (L : Led rs pl) {k : Nat} {r : Row} {x : Int} (h : rs[k]? = some r) (ht : r.t = some x) : r.g = true ∧ ∃ q : Nat, x = q ∧ q < rs.length ∧ isPutAt rs q = true := by
  obtain ⟨_, _, _, s, _, e⟩ := L.row h
  rw [ht] at e
  cases hg : r.g with
  | false => rw [hg, if_neg (by decide)] at e; cases e
  | true =>
    rw [hg, if_pos rfl] at e
    obtain ⟨a, q, b, e1, e2, _, e4⟩ := OM.lastP_some e.symm
    refine ⟨rfl, q, e4, L.lt q ?_, e2⟩
    refine List.mem_of_mem_take (i := s) ?_
    rw [e1]
    exact List.mem_append_right _ List.mem_cons_self
theorem Led.ok (L : Led rs pl) : ∀ r ∈ rs, r.Ok := fun r m => by
  obtain ⟨k, hk, e⟩ := List.mem_iff_getElem.mp m
  have er : rs[k]? = some r := by rw [List.getElem?_eq_getElem hk, e]
  obtain ⟨c, b0, ⟨x, e1, e2⟩, _⟩ := L.row er
  refine ⟨by rw [c]; decide +kernel, b0, fun y ey => ?_, fun y ey => ?_⟩
  · rw [e1] at ey
    cases ey
    exact e2
  · obtain ⟨g, q, eq, _, _⟩ := L.told er ey
    exact ⟨g, (by rw [e1]; exact fun z => (nomatch z)), by omega⟩
theorem Led.nb (L : Led rs pl) : firstBad rs = none := by
  unfold firstBad
  rw [List.find?_range_eq_none]
  intro n hn
  have en : rs[n]? = some rs[n] := List.getElem?_eq_getElem hn
  unfold badAt
  rw [en]
  show (!(match rs[n].t with
    | none => false
    | some j => decide ((rs.length : Int) ≤ j) || (match rs[j.toNat]? with
      | some r => r.g
      | none => true))) = true
  cases ht : rs[n].t with
  | none => rfl
  | some x =>
    obtain ⟨_, q, rfl, ql, qp⟩ := L.told en ht
    have eq : rs[((q : Nat) : Int).toNat]? = some rs[q] := by rw [Int.toNat_natCast]; exact List.getElem?_eq_getElem ql
    show (!(decide ((rs.length : Int) ≤ (q : Int)) || (match rs[((q : Nat) : Int).toNat]? with
      | some r => r.g
      | none => true))) = true
    rw [eq, decide_eq_false (by omega)]
    unfold isPutAt at qp
    rw [List.getElem?_eq_getElem ql] at qp
    have qp : (!rs[q].g) = true := qp
    show (!(false || rs[q].g)) = true
    rw [Bool.false_or]
    exact qp
theorem Led.parts (L : Led rs pl) {k : Nat} : k ∈ partsOf rs ↔ k < rs.length := by
  constructor
  · exact fun h => List.mem_range.mp (List.mem_filter.mp (show k ∈ (List.range rs.length).filter (isPart rs) from h)).1
  · intro h
    have er : rs[k]? = some rs[k] := List.getElem?_eq_getElem h
    obtain ⟨_, _, ⟨x, e1, _⟩, _⟩ := L.row er
    exact mem_parts.mpr ⟨_, er, by rw [e1]; rfl⟩
theorem Led.full (L : Led rs pl) : OM.Full (tmOf rs L.ok L.nb).toHst pl := by
  obtain ⟨pt, mono, f⟩ := L.pts
  refine ⟨⟨L.inj, fun i m => L.parts.mpr (L.lt i m), fun a x b e => ?_⟩, ?_⟩
  · have ex : pl[a.length]? = some x := by rw [e, List.getElem?_append_right (Nat.le_refl _), Nat.sub_self]; rfl
    have ta : pl.take a.length = a := by rw [e, List.take_left']; rfl
    obtain ⟨r, er, _, _, b1, ⟨y, e1, e2⟩, ht⟩ := f _ _ ex
    rw [ta] at ht
    refine ⟨fun i mi na ne => ?_, ?_⟩
    · have il := L.parts.mp mi
      have mi2 := L.all i il
      rw [e] at mi2
      rcases List.mem_append.mp mi2 with z | z
      · exact absurd z na
      · rcases List.mem_cons.mp z with z | z
        · exact absurd z ne
        · obtain ⟨t, ht2, et⟩ := List.mem_iff_getElem.mp z
          have ei : pl[a.length + (t + 1)]? = some i := by
            rw [e, List.getElem?_append_right (by omega), Nat.add_sub_cancel_left]
            show b[t]? = some i
            rw [List.getElem?_eq_getElem ht2, et]
          obtain ⟨s, es, _, _, _, ⟨y2, f1, f2⟩, _⟩ := f _ _ ei
          have := mono a.length (a.length + (t + 1)) (by omega)
          show aI rs i x = false
          unfold aI
          rw [eI_at es, f1, bI_at er]
          exact decide_eq_false (by omega)
    · show isPutAt rs x = true ∨ lotI rs x = OM.lastP (isPutAt rs) none a
      rw [put_at er, lotI_at er]
      unfold lotOf
      cases hg : r.g with
      | false => exact .inl rfl
      | true =>
        rw [hg, if_pos rfl] at ht
        exact .inr (by rw [if_pos rfl]; exact ht)
  · show pl.length = (partsOf rs).length
    have : partsOf rs = List.range rs.length := by
      unfold partsOf
      rw [List.filter_eq_self]
      intro i mi
      have := L.parts.mpr (List.mem_range.mp mi)
      unfold partsOf at this
      exact (List.mem_filter.mp this).2
    rw [this, List.length_range, L.len]
theorem Led.orderly (L : Led rs pl) : Orderly rs := (orderly_iff L.ok L.nb).mpr (OM.order_iff.mp ⟨pl, L.full⟩)
end
end K36
end

section
set_option Elab.async false
set_option linter.all false
set_option maxRecDepth 100000
set_option maxHeartbeats 4000000
/-! asks that are drawn in order, then arranged -/
namespace K36
open PySem L2 KZ
structure Plain (spread : Int) (pr : List Row) : Prop where
  at_ : ∀ (s : Nat) (r : Row), pr[s]? = some r → r.c = ("a" : Str) ∧ 0 ≤ r.b ∧ r.b ≤ 4 * spread + 10 * (s : Int) ∧ (∃ e, r.e = some e ∧ 4 * spread + 10 * (s : Int) < e) ∧ r.t = (if r.g = true then OM.lastP (isPutAt pr) none (List.range s) else none)
def lastOfP (pr : List Row) : Option Int := OM.lastP (isPutAt pr) none (List.range pr.length)
theorem lastP_congr {p q : Nat → Bool} : ∀ {o : List Nat} {l : Option Int}, (∀ i ∈ o, p i = q i) → OM.lastP p l o = OM.lastP q l o
  | [], _, _ => rfl
  | i :: o, l, h => by
    rw [OM.lastP_cons, OM.lastP_cons, h i List.mem_cons_self]
    exact lastP_congr fun j m => h j (List.mem_cons_of_mem _ m)
theorem put_snoc {pr : List Row} {r : Row} {i : Nat} (h : i < pr.length) : isPutAt (pr ++ [r]) i = isPutAt pr i := by
  unfold isPutAt
  rw [List.getElem?_append_left h]
theorem last_snoc (pr : List Row) (r : Row) : lastOfP (pr ++ [r]) = if r.g = false then some (pr.length : Int) else lastOfP pr := by
  unfold lastOfP
  rw [List.length_append, List.length_singleton, List.range_succ, OM.lastP_app, OM.lastP_cons, lastP_congr (q := isPutAt pr) fun i m => put_snoc (List.mem_range.mp m)]
  have : isPutAt (pr ++ [r]) pr.length = !r.g := by
    unfold isPutAt
    rw [List.getElem?_append_right (Nat.le_refl _), Nat.sub_self]
    rfl
  rw [this]
  show OM.lastP _ _ [] = _
  cases r.g <;> rfl
theorem Plain.snoc {spread : Int} {pr : List Row} {r : Row} (P : Plain spread pr) (hc : r.c = ("a" : Str)) (b0 : 0 ≤ r.b) (b1 : r.b ≤ 4 * spread + 10 * (pr.length : Int)) (he : ∃ e, r.e = some e ∧ 4 * spread + 10 * (pr.length : Int) < e) (ht : r.t = if r.g = true then lastOfP pr else none) : Plain spread (pr ++ [r]) := ⟨fun s q e => by
  by_cases h : s < pr.length
  · rw [List.getElem?_append_left h] at e
    obtain ⟨a1, a2, a3, a4, a5⟩ := P.at_ s q e
    refine ⟨a1, a2, a3, a4, ?_⟩
    rw [a5, lastP_congr fun i m => put_snoc (r := r) (Nat.lt_trans (List.mem_range.mp m) h)]
  · have hs : s = pr.length := by
      have := (List.getElem?_eq_some_iff.mp e).1
      rw [List.length_append, List.length_singleton] at this
      omega
    subst hs
    rw [List.getElem?_append_right (Nat.le_refl _), Nat.sub_self] at e
    cases e
    refine ⟨hc, b0, b1, he, ?_⟩
    rw [ht, lastP_congr fun i m => put_snoc (r := r) (List.mem_range.mp m)]
    rfl⟩
def r0 : Row := ⟨"a", false, 0, none, none⟩
def reT (pl : List Nat) (r : Row) : Row := ⟨r.c, r.g, r.b, r.e, r.t.map fun x => (((pl[x.toNat]?).getD 0 : Nat) : Int)⟩
def placesOf (sp : List Nat) (n : Nat) : List Nat := (List.range n).map fun s => sp.idxOf s
def mixR (pr : List Row) (sp pl : List Nat) : List Row := sp.map fun s => reT pl (pr.getD s r0)
theorem lastP_map {p q : Nat → Bool} {f : Nat → Nat} : ∀ {o : List Nat} {l : Option Int}, (∀ i ∈ o, p (f i) = q i) → OM.lastP p (l.map fun x => ((f x.toNat : Nat) : Int)) (o.map f) = (OM.lastP q l o).map fun x => ((f x.toNat : Nat) : Int)
  | [], _, _ => rfl
  | i :: o, l, h => by
    rw [List.map_cons, OM.lastP_cons, OM.lastP_cons, h i List.mem_cons_self]
    have := lastP_map (o := o) (l := if q i = true then some (i : Int) else l) fun j m => h j (List.mem_cons_of_mem _ m)
    rw [← this]
    congr 1
    cases q i with
    | true => rw [if_pos rfl, if_pos rfl]; rfl
    | false => rw [if_neg (by decide), if_neg (by decide)]
section
variable {pr : List Row} {sp : List Nat}
theorem sp_mem (pm : sp.Perm (List.range pr.length)) {s : Nat} : s ∈ sp ↔ s < pr.length := by rw [pm.mem_iff, List.mem_range]
theorem places_get {n s : Nat} (h : s < n) : (placesOf sp n)[s]? = some (sp.idxOf s) := by
  unfold placesOf
  rw [List.getElem?_map, List.getElem?_range h]
  rfl
theorem led_of {spread : Int} (P : Plain spread pr) (pm : sp.Perm (List.range pr.length)) : Led (mixR pr sp (placesOf sp pr.length)) (placesOf sp pr.length) := by
  have len : (mixR pr sp (placesOf sp pr.length)).length = pr.length := by
    unfold mixR
    rw [List.length_map, pm.length_eq, List.length_range]
  have lp : (placesOf sp pr.length).length = pr.length := by
    unfold placesOf
    rw [List.length_map, List.length_range]
  have lsp : sp.length = pr.length := by rw [pm.length_eq, List.length_range]
  have nd : sp.Nodup := pm.nodup_iff.mpr List.nodup_range
  have ix : ∀ {s : Nat}, s < pr.length → sp.idxOf s < sp.length := fun h => List.idxOf_lt_length_of_mem ((sp_mem pm).mpr h)
  have gi : ∀ {s : Nat} (h : s < pr.length), sp[sp.idxOf s]? = some s := fun h => by
    rw [List.getElem?_eq_getElem (ix h), List.getElem_idxOf]
  have inj : ∀ {s t : Nat}, s < pr.length → t < pr.length → sp.idxOf s = sp.idxOf t → s = t := fun hs ht e => by
    have a := gi hs
    rw [e, gi ht] at a
    exact (Option.some.inj a).symm
  have row : ∀ {s : Nat} (h : s < pr.length), (mixR pr sp (placesOf sp pr.length))[sp.idxOf s]? = some (reT (placesOf sp pr.length) pr[s]) := fun {s} h => by
    unfold mixR
    rw [List.getElem?_map, gi h]
    show some (reT _ (pr.getD s r0)) = _
    rw [List.getD_eq_getElem?_getD, List.getElem?_eq_getElem h]
    rfl
  have putE : ∀ {s : Nat}, s < pr.length → isPutAt (mixR pr sp (placesOf sp pr.length)) (sp.idxOf s) = isPutAt pr s := fun {s} h => by
    rw [put_at (row h), put_at (List.getElem?_eq_getElem h)]
    rfl
  refine ⟨?_, ?_, ?_, by rw [lp, len], fun s => 4 * spread + 10 * (s : Int), fun s t h => by
    show 4 * spread + 10 * (s : Int) ≤ 4 * spread + 10 * (t : Int)
    omega, ?_⟩
  · unfold placesOf
    rw [List.Nodup, List.pairwise_map]
    refine List.Pairwise.imp_of_mem (R := fun a b => a ≠ b) (fun {a b} ma mb ne e => ?_) List.nodup_range
    exact ne (inj (List.mem_range.mp ma) (List.mem_range.mp mb) e)
  · intro k m
    obtain ⟨s, ms, rfl⟩ := List.mem_map.mp m
    rw [len, ← lsp]
    exact ix (List.mem_range.mp ms)
  · intro k hk
    rw [len, ← lsp] at hk
    have ms : sp[k] < pr.length := (sp_mem pm).mp (List.getElem_mem hk)
    refine List.mem_map.mpr ⟨sp[k], List.mem_range.mpr ms, ?_⟩
    have h1 := ix ms
    have h2 : sp[sp.idxOf sp[k]] = sp[k] := List.getElem_idxOf h1
    exact (List.getElem_inj nd).mp h2
  · intro s k e
    have hs : s < pr.length := by
      have := (List.getElem?_eq_some_iff.mp e).1
      rw [lp] at this
      exact this
    rw [places_get hs] at e
    cases e
    obtain ⟨a1, a2, a3, a4, a5⟩ := P.at_ s pr[s] (List.getElem?_eq_getElem hs)
    refine ⟨_, row hs, a1, a2, a3, a4, ?_⟩
    show (pr[s].t.map fun x => (((((placesOf sp pr.length)[x.toNat]?).getD 0 : Nat)) : Int)) = if pr[s].g = true then _ else none
    rw [a5]
    cases hg : pr[s].g with
    | false => rw [if_neg (by decide), if_neg (by decide)]; rfl
    | true =>
      rw [if_pos rfl, if_pos rfl]
      have tk : (placesOf sp pr.length).take s = (List.range s).map fun s => sp.idxOf s := by
        unfold placesOf
        rw [← List.map_take, List.take_range, Nat.min_eq_left (Nat.le_of_lt hs)]
      rw [tk]
      have := lastP_map (p := isPutAt (mixR pr sp (placesOf sp pr.length))) (q := isPutAt pr) (f := fun s => sp.idxOf s) (o := List.range s) (l := none) fun i m => putE (Nat.lt_trans (List.mem_range.mp m) hs)
      rw [show (Option.map (fun x => ((sp.idxOf (Int.toNat x) : Nat) : Int)) none) = none from rfl] at this
      rw [this]
      cases hl : OM.lastP (isPutAt pr) none (List.range s) with
      | none => rfl
      | some x =>
        obtain ⟨a, q, b, e1, e2, _, rfl⟩ := OM.lastP_some hl
        have hq : q < pr.length := by
          have : q ∈ List.range s := by rw [e1]; exact List.mem_append_right _ List.mem_cons_self
          exact Nat.lt_trans (List.mem_range.mp this) hs
        show some ((((placesOf sp pr.length)[((q : Nat) : Int).toNat]?).getD 0 : Nat) : Int) = some ((sp.idxOf (((q : Nat) : Int).toNat) : Nat) : Int)
        rw [Int.toNat_natCast, places_get hq]
        rfl
end
end K36
end

section
set_option Elab.async false
set_option linter.all false
set_option maxRecDepth 100000
set_option maxHeartbeats 4000000
/-! helpers of what draws -/
namespace K36
open PySem L2 KZ
theorem PenAt.more {H : Hp} {p c : Addr} {cells : List Int} {n m : Nat} (h : PenAt H p c cells n) (hn : n ≤ m) : PenAt H p c cells m := h.mono (Same.refl H) hn
theorem PenAt.nn {H : Hp} {p c : Addr} {cells : List Int} {n : Nat} (h : PenAt H p c cells n) {L : Addr} (e : H L = none) : L ≠ p ∧ L ≠ c := by
  obtain ⟨a, g, hp, _⟩ := h.ex
  exact ⟨(ne_of_none hp e).symm, (ne_of_none h.cs e).symm⟩
theorem PenAt.upd {H : Hp} {p c : Addr} {cells : List Int} {n : Nat} (h : PenAt H p c cells n) {L : Addr} {o : HO} (e : L ≠ p ∧ L ≠ c) : PenAt (upd H L o) p c cells n := by
  obtain ⟨a, g, h1, h2⟩ := h.ex
  exact ⟨⟨a, g, by rw [upd_ne e.1.symm]; exact h1, h2⟩, by rw [upd_ne e.2.symm]; exact h.cs, h.few, h.ne⟩
theorem Kept.upd {p : Addr} {H H1 : Hp} (k : Kept p H H1) {L : Addr} {o : HO} (e : H L = none) : Kept p H (upd H1 L o) := fun b u hb z => by
  rw [upd_ne (ne_of_none z e)]
  exact k b u hb z
theorem Kept.nn {p : Addr} {H H1 : Hp} (k : Kept p H H1) {L : Addr} (e : H1 L = none) (hp : L ≠ p) : H L = none := by
  cases h : H L with
  | none => rfl
  | some o =>
    have := k L o hp h
    rw [e] at this
    cases this
theorem asg_of {te : TE} {g : TG} {rest : TS} {D : Ends} {σ : L2.St} {H : Hp} (good : V → Hp → Prop) (h : ∀ Q : VK, (∀ v H', good v H' → Q v H') → te σ H Q) (go : ∀ v H', good v H' → g v σ H' (rest D)) : tSeq (tAsg te g) rest D σ H := h _ go
theorem nx_go {i : Nat} {v : V} {σ : L2.St} {H : Hp} {k : L2.St → Hp → Prop} (h : k (σ.set i (some v)) H) : gName i v σ H k := h
theorem seq_c {v : V} {i : Nat} {rest : TS} {D : Ends} {σ : L2.St} {H : Hp} (go : rest D (σ.set i (some v)) H) : tSeq (tAsg (tC v) (gName i)) rest D σ H := go
theorem if_told {c : TT} {te : TE} {i : Nat} {rest : TS} {D : Ends} {σ : L2.St} {H : Hp} (P1 : Bool → Hp → Prop) (good : Option Int → Hp → Prop) (h0 : σ = σ.set i (some .non)) (hc : ∀ Q : Bool → Hp → Prop, (∀ b H', P1 b H' → Q b H') → c σ H Q)
    (ht : ∀ H', P1 true H' → ∀ Q : VK, (∀ t H2, good t H2 → Q (oV t) H2) → te σ H' Q) (hf : ∀ H', P1 false H' → good none H') (go : ∀ t H', good t H' → rest D (σ.set i (some (oV t))) H') : tSeq (tIfS c (tAsg te (gName i)) tNext) rest D σ H := by
  refine hc _ fun b H' p => ?_
  cases b with
  | true => exact iteT (ht H' p _ fun t H2 g => go t H2 g)
  | false =>
    refine iteF ?_
    have z := go none H' (hf H' p)
    have e : σ.set i (some (oV none)) = σ := h0.symm
    rw [e] at z
    exact z
def KN (p : Addr) (H H' : Hp) : Prop := ∀ b o, b ≠ p → H b = some o → (∀ ps, o ≠ .tbl ps) → H' b = some o
theorem KN.refl (p : Addr) (H : Hp) : KN p H H := fun _ _ _ h _ => h
theorem KN.trans {p : Addr} {H H1 H2 : Hp} (a : KN p H H1) (b : KN p H1 H2) : KN p H H2 := fun x o hx e n => b x o hx (a x o hx e n) n
theorem KN.same {p : Addr} {H H1 : Hp} (s : Same H H1) : KN p H H1 := fun x o _ e _ => s x o e
theorem KN.kept {p : Addr} {H H1 : Hp} (s : Kept p H H1) : KN p H H1 := fun x o hx e _ => s x o hx e
theorem KN.ext {p : Addr} {H H1 : Hp} (s : LamX.ExtN H H1) : KN p H H1 := fun x o _ e n => s x o e n
end K36
end

section
set_option Elab.async false
set_option linter.all false
set_option maxRecDepth 100000
set_option maxHeartbeats 4000000
/-! drawn asks that an order leads -/
namespace K36
open PySem L2 KZ
abbrev sLed : Stmt := top 41
def spLed : Sp := fun vs H Q _ => ∃ (p c : Addr) (cells : List Int) (n m : Nat) (sd : Int), vs = [.ref p, .int m, .int sd] ∧ PenAt H p c cells n ∧ n ≤ 5000 ∧ 1 ≤ m ∧ m ≤ 300 ∧ 1 ≤ sd ∧ sd ≤ 1000 ∧
  ∀ t a o rs pl H', a ≠ p → PenAt H' p c cells (n + 5 * m) → Kept p H H' → H' t = some (.tup [.ref a, .ref o]) → RowsAt H' a rs → H' o = some (.tup (nats pl)) → Led rs pl → rs.length = m → Q (.ref t) H'
abbrev Rws (H : Hp) (ps : List Addr) (rs : List Row) : Prop := Paired (RowAt H) ps rs
theorem Rws.keep {H H' : Hp} {ps : List Addr} {rs : List Row} (h : Rws H ps rs) (k : ∀ q x, H q = some (.tup x) → H' q = some (.tup x)) : Rws H' ps rs := Paired.mapP h fun q r e => k q _ e
theorem map_erase {α β : Type} (f : α → β) : ∀ (l : List α) (i : Nat), (l.map f).eraseIdx i = (l.eraseIdx i).map f
  | [], _ => rfl
  | _ :: _, 0 => rfl
  | x :: l, i + 1 => by
    show f x :: (l.map f).eraseIdx i = f x :: (l.eraseIdx i).map f
    rw [map_erase f l i]
theorem erase_perm {α : Type} : ∀ {l : List α} {i : Nat} (h : i < l.length), (l[i] :: l.eraseIdx i).Perm l
  | x :: l, 0, _ => List.Perm.refl _
  | x :: l, i + 1, h => (List.Perm.swap x (l[i]'(Nat.lt_of_succ_lt_succ h)) (l.eraseIdx i)).trans (List.Perm.cons x (erase_perm (l := l) (i := i) (Nat.lt_of_succ_lt_succ h)))
theorem rg_nats (n : Nat) : rgV 0 (n : Int) = nats (List.range n) := by
  unfold nats rgV
  rw [show ((n : Int) - 0).toNat = n by omega]
  refine List.map_congr_left fun i _ => ?_
  show V.int (0 + (i : Int)) = V.int (i : Int)
  rw [Int.zero_add]
section
variable {P : Program} {w : World} {K : PySem.W.Frag} {mg : Str → Option Value} {base : Heap}
theorem scLed : FnScope ["well", "many", "spread", "plain", "last", "spot", "point", "begun", "ended", "word", "spots", "left", "turn", "places", "rows", "row"] ["well", "many", "spread"] (defScope sLed) := ⟨rfl, rfl, rfl, by decide +kernel, rfl, by decide +kernel, by decide +kernel⟩
theorem ok_led {f : Addr} {fd : FuncData} (F : Fun K "_law_led" "_law_led" sLed f fd) (T : B1 mg) (draw : Cal P w K mg base "_law_draw" 1 ["well", "many"] spDraw) (one : Cal P w K mg base "_law_one" 2 ["well", "some"] spOne) : FnOk P w K mg base CX0 3 f fd ["well", "many", "spread"] spLed := by
  obtain ⟨fD, dD, gD, GD, kD, bD⟩ := draw.ex
  obtain ⟨fO, dO, gO_, GO, kO, bO⟩ := one.ex
  refine F.ok scLed (fun vs H Q E h => ?_) (fun cdv A' outer s H vs Q E hr h => ?_)
  · obtain ⟨p, c, cells, n, m, sd, rfl, _⟩ := h
    rfl
  · obtain ⟨p, c, cells, n, m, sd, rfl, pen, hn, m1, m2, d1, d2, q⟩ := h
    have hr2 : Room 2 _ := hr
    have hr1 : Room 1 _ := hr.mono (by decide)
    refine ⟨_, (pss_cons (ps_asg (pe_tup (pa_cons (pe_lst pa_nil) (pa_cons pe_non pa_nil))) (pg_tup rfl (pgs_cons (pg_name (i := 3) scLed.nd rfl (Or.inr rfl)) (pgs_cons (pg_name (i := 4) scLed.nd rfl (Or.inl rfl)) pgs_nil))))
(pss_cons (ps_for PassesOwn.never rfl (pi_range1 (by rfl) T.range (pa_cons (pv 1) pa_nil)) (pg_name (i := 5) scLed.nd rfl (Or.inl rfl))
(pss_cons (ps_set (i := 6) scLed.nd rfl (Or.inl rfl) (pe_op op_add (pe_op op_mul pe_int (pv 2)) (pe_op op_mul pe_int (pv 5))))
(pss_cons (ps_par (i := 7) (j := 8) (by rfl) scLed.nd rfl rfl (by decide) rfl rfl (pa_cons (pe_op op_sub (pv 6) (pe_call GD hr1 (by rfl) gD kD bD .nil pass0 (pa_cons (pv 0) (pa_cons (pe_op op_mul pe_int (pv 2)) pa_nil)))) (pa_cons (pe_op op_add (pe_op op_add (pv 6) pe_int) (pe_call GD hr1 (by rfl) gD kD bD .nil pass0 (pa_cons (pv 0) (pa_cons (pe_op op_mul pe_int (pv 2)) pa_nil)))) pa_nil)) (by rfl))
(pss_cons (ps_set (i := 9) scLed.nd rfl (Or.inl rfl) (pe_ifExp (PW.pt (pw_and (pt_cmpR op_isN (pv 4) pe_non (nomark _)) (pw_and1 (pt_cmpR op_gt (pe_call GD hr1 (by rfl) gD kD bD .nil pass0 (pa_cons (pv 0) (pa_cons pe_int pa_nil))) pe_int (nomark _))))) pe_str (pe_call GO hr2 (by rfl) gO_ kO bO .nil pass0 (pa_cons (pv 0) (pa_cons (pe_lst (pa_cons pe_str (pa_cons pe_str (pa_cons pe_str pa_nil)))) pa_nil)))))
(pss_cons (ps_expr (pe_bm PySem.F.plainAttrs_list PySem.F.slot_list_append PySem.F.type_list_append mt_append (pv 3) (pa_cons (pe_tup (pa_cons pe_str (pa_cons (pv 9) (pa_cons (pv 7) (pa_cons (pv 8) (pa_cons (pe_ifExp (pt_cmpR op_eq (pv 9) pe_str (nomark _)) pe_non (pv 4)) pa_nil)))))) pa_nil)))
(pss_one (ps_set (i := 4) scLed.nd rfl (Or.inl rfl) (pe_ifExp (pt_cmpR op_eq (pv 9) pe_str (nomark _)) (pv 5) (pv 4)))))))))
(pss_cons (ps_asg (pe_tup (pa_cons (pe_lst pa_nil) (pa_cons (pe_listRg rfl (by rfl) T.list (prg_1 (by rfl) T.range (pv 1))) pa_nil))) (pg_tup rfl (pgs_cons (pg_name (i := 10) scLed.nd rfl (Or.inr rfl)) (pgs_cons (pg_name (i := 11) scLed.nd rfl (Or.inl rfl)) pgs_nil))))
(pss_cons (ps_for PassesOwn.never rfl (pi_range1 (by rfl) T.range (pa_cons (pv 1) pa_nil)) (pg_name (i := 12) scLed.nd rfl (Or.inl rfl))
(pss_one (ps_expr (pe_bm PySem.F.plainAttrs_list PySem.F.slot_list_append PySem.F.type_list_append mt_append (pv 10) (pa_cons (pe_bm PySem.F.plainAttrs_list PySem.F.slot_list_pop PySem.F.type_list_pop mt_popAt (pv 11) (pa_cons (pe_call GD hr1 (by rfl) gD kD bD .nil pass0 (pa_cons (pv 0) (pa_cons (pe_callB call_len (by rfl) T.len PySem.boot_len (pa_cons (pv 11) pa_nil)) pa_nil))) pa_nil)) pa_nil)))))
(pss_cons (ps_set (i := 13) scLed.nd rfl (Or.inr rfl) (pe_lc (own := [("spot", 5)]) (g := gName 5) (tt := tYes) (by rfl) scLed.nd (pi_range1 (by rfl) T.range (pa_cons (pv 1) pa_nil)) (blkOk_by (own := [("spot", 5)]) (N := ["well", "many", "spread", "plain", "last", "spot", "point", "begun", "ended", "word", "spots", "left", "turn", "places", "rows", "row"]) (sc := defScope sLed) (by decide +kernel)) (fun _ _ _ _ _ => pg_name (i := 5) scLed.nd rfl (Or.inl rfl)) (fun _ _ _ _ _ => pts_nil) (fun _ _ _ _ _ => pe_bmK K PySem.F.plainAttrs_list PySem.F.slot_list_index PySem.F.type_list_index (mt_indexK K) (pv 10) (pa_cons (pv 5) pa_nil))))
(pss_cons (ps_setLc (i := 14) (own := [("spot", 5)]) (g := gName 5) (tt := tYes) (by rfl) scLed.nd rfl rfl (sw_true rfl rfl rfl (by decide +kernel)) (pi_list (pv 10)) (blkOk_by (own := [("spot", 5)]) (N := ["well", "many", "spread", "plain", "last", "spot", "point", "begun", "ended", "word", "spots", "left", "turn", "places", "rows", "row"]) (sc := defScope sLed) (by decide +kernel)) (fun _ _ _ _ _ => pg_name (i := 5) scLed.nd rfl (Or.inl rfl)) (fun _ _ _ _ _ => pts_nil) (fun _ _ _ _ _ => pe_ix (ix_seqK K) (pv 3) (pv 5) (fun _ _ => rfl)))
(pss_cons (ps_setLc (i := 14) (own := [("row", 15)]) (g := gName 15) (tt := tYes) (by rfl) scLed.nd rfl rfl (sw_true rfl rfl rfl (by decide +kernel)) (pi_list (pv 14)) (blkOk_by (own := [("row", 15)]) (N := ["well", "many", "spread", "plain", "last", "spot", "point", "begun", "ended", "word", "spots", "left", "turn", "places", "rows", "row"]) (sc := defScope sLed) (by decide +kernel)) (fun _ _ _ _ _ => pg_name (i := 15) scLed.nd rfl (Or.inl rfl)) (fun _ _ _ _ _ => pts_nil) (fun _ _ _ _ _ => pe_op (op_catAK K) (pe_slice (sl_tupK K) (pv 15) po_none (po_some pe_int)) (pe_tup (pa_cons (pe_ifExp (pt_cmpR op_isN (pe_ix (ix_seqK K) (pv 15) pe_int (fun _ _ => rfl)) pe_non (nomark _)) pe_non (pe_ix (ix_seqK K) (pv 13) (pe_ix (ix_seqK K) (pv 15) pe_int (fun _ _ => rfl)) (fun _ _ => rfl))) pa_nil))))
(pss_one (ps_ret (pe_tup (pa_cons (pv 14) (pa_cons (pe_callTy call_tuple_of (by rfl) T.tuple (by decide +kernel) (pa_cons (pv 13) pa_nil)) pa_nil)))))))))))), ?_⟩
    refine ⟨Nat.zero_le _, fun PL hPL => ⟨(by show 2 ≤ sizeLine; decide), fun t0 ht0 => ⟨t0, _, rfl, SqT.of upd_same, rfl, _, _, rfl, _, _, rfl, rfl, ?_⟩⟩⟩
    have s1 : Same H (upd (upd H PL (.lst [])) t0 (.tup [.ref PL, .non])) := (same_new hPL).trans (same_new ht0)
    have fPL : upd (upd H PL (.lst [])) t0 (.tup [.ref PL, .non]) PL = some (.lst []) := same_new ht0 _ _ upd_same
    have pen1 := pen.mono s1 (Nat.le_refl _)
    have nPL := (pen.nn hPL).1
    have nPLc := (pen.nn hPL).2
    generalize upd (upd H PL (.lst [])) t0 (.tup [.ref PL, .non]) = H1 at s1 fPL pen1 ⊢
    refine ⟨.int m, rfl, m, rfl, by omega, by omega, for_range (n := m) (fun i σ H' => ∃ ps pr x5 x6 x7 x8 x9, σ = [some (.ref p), some (.int m), some (.int sd), some (.ref PL), some (oV (lastOfP pr)), x5, x6, x7, x8, x9, none, none, none, none, none, none] ∧ H' PL = some (.lst (ps.map V.ref)) ∧ Rws H' ps pr ∧ pr.length = i ∧ Plain sd pr ∧ PenAt H' p c cells (n + 4 * i) ∧ Kept p H H')
      ⟨[], [], _, _, _, _, _, rfl, fPL, .nil, rfl, ⟨fun s r e => by cases e⟩, pen1, Kept.of s1⟩ ?_ ?_⟩
    · rintro i σ H2 hi ⟨ps, pr, x5, x6, x7, x8, x9, rfl, fPL, rw_, hl, pn, pen2, kp⟩
      show gName 5 (V.int (0 + (i : Int))) _ _ _
      rw [Int.zero_add]
      refine nx_go ?_
      have i300 : i < 300 := by omega
      have cm : ∀ a b : Int, 0 ≤ a → a ≤ 100 → CMul a b := fun a b h1 h2 => .inl ⟨by omega, by omega⟩
      refine ⟨.int sd, rfl, 4, sd, rfl, rfl, cm _ _ (by decide) (by decide), .int i, rfl, 10, (i : Int), rfl, rfl, cm _ _ (by decide) (by decide), _, _, rfl, rfl, nx_go ?_⟩
      refine ⟨_, rfl, .ref p, rfl, .int sd, rfl, 2, sd, rfl, rfl, cm _ _ (by decide) (by decide), p, c, cells, _, 2 * sd, rfl, pen2, by omega, by omega, by omega, fun u1 H3 u10 u11 pen3 kp3 => ?_⟩
      refine ⟨_, _, rfl, rfl, _, rfl, _, _, rfl, rfl, .ref p, rfl, .int sd, rfl, 2, sd, rfl, rfl, cm _ _ (by decide) (by decide), p, c, cells, _, 2 * sd, rfl, pen3, by omega, by omega, by omega, fun u2 H4 u20 u21 pen4 kp4 => ?_⟩
      refine ⟨_, _, rfl, rfl, _, _, rfl, ?_⟩
      have kp24 := kp3.trans kp4
      clear kp3 kp4 pen3
      have ipt : (4 * sd + 10 * (i : Int)) = 4 * sd + 10 * (i : Int) := rfl
      generalize hb : 4 * sd + 10 * (i : Int) - u1 = b
      generalize he : 4 * sd + 10 * (i : Int) + 1 + u2 = e
      dsimp only
      refine asg_of (fun v H' => ∃ g, v = .str (wd g) ∧ PenAt H' p c cells (n + 4 * i + 4) ∧ Kept p H4 H') (fun Qv z => ?_) (fun v H5 ⟨g, ev, pen5, kp5⟩ => ?_)
      · have drawn : ∀ H5 k, PenAt H5 p c cells k → k ≤ n + 4 * i + 3 → Kept p H4 H5 → (tCall spOne [] E0 (tCons (tVar 0) (tCons (tLst (tCons (tC (V.str "get")) (tCons (tC (V.str "get")) (tCons (tC (V.str "put")) tNil)))) tNil)))
            (((([some (V.ref p), some (V.int m), some (V.int sd), some (V.ref PL), some (oV (lastOfP pr)), x5, x6, x7, x8, x9, none, none, none, none, none, none].set 5 (some (V.int i))).set 6 (some (V.int (4 * sd + 10 * (i : Int))))).set 7 (some (V.int (4 * sd + 10 * (i : Int) - u1)))).set 8 (some (V.int (4 * sd + 10 * (i : Int) + 1 + u2)))) H5 Qv := fun H5 k pk lk kk => by
          refine ⟨.ref p, rfl, by show 3 ≤ sizeLine; decide, fun L hL => ?_⟩
          have pL := pk.mono (same_new (o := .lst [V.str "get", V.str "get", V.str "put"]) hL) (Nat.le_refl _)
          refine ⟨p, c, L, cells, _, _, rfl, pL, by omega, upd_same, (pk.nn hL).1, by decide, by decide, fun j x H7 ex pn7 kp7 => ?_⟩
          have k7 : Kept p H4 H7 := kk.trans ((Kept.of (same_new hL)).trans kp7)
          rcases j with _ | _ | _ | j
          · cases ex
            exact z _ _ ⟨true, rfl, pn7.more (by omega), k7⟩
          · cases ex
            exact z _ _ ⟨true, rfl, pn7.more (by omega), k7⟩
          · cases ex
            exact z _ _ ⟨false, rfl, pn7.more (by omega), k7⟩
          · cases ex
        refine ⟨oV (lastOfP pr), rfl, rfl, (lastOfP pr).isNone, (by cases lastOfP pr <;> rfl), ?_⟩
        cases (lastOfP pr).isNone with
        | false => exact iteF' (iteF' (drawn H4 _ pen4 (by omega) (fun _ _ _ e => e)))
        | true =>
          refine iteT' ⟨.ref p, rfl, p, c, cells, _, 3, rfl, pen4, by omega, by decide, by decide, fun d H5 d0 d1 pen5 kp5 => ⟨d, 0, rfl, rfl, _, rfl, ?_⟩⟩
          by_cases hd : 0 < d
          · rw [decide_eq_true hd]
            exact iteT' (z _ _ ⟨false, rfl, pen5.more (by omega), kp5⟩)
          · rw [decide_eq_false hd]
            exact iteF' (drawn H5 _ pen5 (by omega) kp5)
      · subst ev
        refine nx_go ?_
        have kp25 := kp24.trans kp5
        have f5 := kp25 _ _ nPL fPL
        have r5 : Rws H5 ps pr := Paired.mapP rw_ fun q r e => kp25 _ _ (fun z => by
          obtain ⟨a1, g1, h1, _⟩ := pen2.ex
          unfold RowAt at e
          rw [z, h1] at e
          cases e) e
        have kp5H := kp.trans kp25
        clear kp24 kp25 kp5 kp pen4 pen2 rw_ fPL
        have fin : ∀ (r : Row) (T0 : Addr), H5 T0 = none → r.c = ("a" : Str) → r.g = g → r.b = 4 * sd + 10 * (i : Int) - u1 → r.e = some (4 * sd + 10 * (i : Int) + 1 + u2) → (r.t = if r.g = true then lastOfP pr else none) → ∀ (x : V), x = oV (lastOfP (pr ++ [r])) →
            ∃ ps' pr' x5 x6 x7 x8 x9, [some (V.ref p), some (V.int m), some (V.int sd), some (V.ref PL), some x, some (V.int i), some (V.int (4 * sd + 10 * (i : Int))), some (V.int (4 * sd + 10 * (i : Int) - u1)), some (V.int (4 * sd + 10 * (i : Int) + 1 + u2)), some (V.str (wd g)), none, none, none, none, none, none] = [some (.ref p), some (.int m), some (.int sd), some (.ref PL), some (oV (lastOfP pr')), x5, x6, x7, x8, x9, none, none, none, none, none, none] ∧
              (upd (upd H5 T0 (.tup (rowV r))) PL (.lst (ps.map V.ref ++ [.ref T0]))) PL = some (.lst (ps'.map V.ref)) ∧ Rws (upd (upd H5 T0 (.tup (rowV r))) PL (.lst (ps.map V.ref ++ [.ref T0]))) ps' pr' ∧ pr'.length = i + 1 ∧ Plain sd pr' ∧ PenAt (upd (upd H5 T0 (.tup (rowV r))) PL (.lst (ps.map V.ref ++ [.ref T0]))) p c cells (n + 4 * (i + 1)) ∧ Kept p H (upd (upd H5 T0 (.tup (rowV r))) PL (.lst (ps.map V.ref ++ [.ref T0]))) := fun r T0 hT0 hc hg hb he ht x hx => by
          subst hx
          have nTP : T0 ≠ PL := fun z => by rw [z, f5] at hT0; cases hT0
          have keepT : ∀ q x, H5 q = some (.tup x) → upd (upd H5 T0 (.tup (rowV r))) PL (.lst (ps.map V.ref ++ [.ref T0])) q = some (.tup x) := fun q x e => by
            rw [upd_ne (fun z => by rw [z, f5] at e; cases e), upd_ne (ne_of_none e hT0)]
            exact e
          refine ⟨ps ++ [T0], pr ++ [r], _, _, _, _, _, rfl, by rw [upd_same, List.map_append]; rfl, Paired.snoc (r5.keep keepT) (by unfold RowAt; rw [upd_ne nTP]; exact upd_same), by rw [List.length_append, hl]; rfl, pn.snoc hc (by rw [hb]; omega) (by rw [hb, hl]; omega) ⟨_, he, by rw [hl]; omega⟩ ht, ?_, ?_⟩
          · exact ((pen5.mono (same_new hT0) (Nat.le_refl _)).upd ⟨nPL, nPLc⟩).more (by omega)
          · exact (kp5H.trans (Kept.of (same_new hT0))).upd hPL
        have lps : ps.length < sizeLine := by
          rw [Paired.length r5, hl]
          exact Nat.lt_trans i300 (by decide)
        refine ⟨.ref PL, rfl, .inl ⟨rfl, _, SqL.of f5⟩, _, rfl, _, rfl, _, rfl, _, rfl, rfl, !g, (by cases g <;> decide +kernel), ?_⟩
        cases g with
        | false =>
          refine iteT' ⟨by show 5 ≤ sizeLine; decide, fun T0 hT0 => ⟨PL, _, _, rfl, rfl, same_new hT0 _ _ f5, by rw [List.length_map]; exact lps, _, rfl, rfl, true, by decide +kernel, iteT' ⟨_, rfl, ?_⟩⟩⟩
          exact fin ⟨"a", false, _, some _, none⟩ T0 hT0 rfl rfl rfl rfl rfl _ (by rw [last_snoc, if_pos rfl, hl]; rfl)
        | true =>
          refine iteF' ⟨_, rfl, by show 5 ≤ sizeLine; decide, fun T0 hT0 => ⟨PL, _, _, rfl, rfl, same_new hT0 _ _ f5, by rw [List.length_map]; exact lps, _, rfl, rfl, false, by decide +kernel, iteF' ⟨_, rfl, ?_⟩⟩⟩
          exact fin ⟨"a", true, _, some _, lastOfP pr⟩ T0 hT0 rfl rfl rfl rfl rfl _ (by rw [last_snoc, if_neg (fun z => nomatch z)])
    · rintro σ H2 ⟨ps, pr, x5, x6, x7, x8, x9, rfl, fPL, rw_, hl, pn, pen2, kp⟩
      refine ⟨Nat.zero_le _, fun SP hSP => ⟨.int m, rfl, m, rfl, RgOk.of_le (by decide) (by omega) (by decide) (by omega), fun LF hLF => ⟨by show 2 ≤ sizeLine; decide, fun t1 ht1 => ⟨t1, _, rfl, SqT.of upd_same, rfl, _, _, rfl, _, _, rfl, rfl, ?_⟩⟩⟩⟩
      rw [rg_nats] at ht1 ⊢
      have nSL : LF ≠ SP := fun z => by rw [z, upd_same] at hLF; cases hLF
      have sN : Same H2 (upd (upd (upd H2 SP (.lst [])) LF (.lst (nats (List.range m)))) t1 (.tup [.ref SP, .ref LF])) := (same_new hSP).trans ((same_new hLF).trans (same_new ht1))
      have fSP : upd (upd (upd H2 SP (.lst [])) LF (.lst (nats (List.range m)))) t1 (.tup [.ref SP, .ref LF]) SP = some (.lst []) := same_new ht1 _ _ (same_new hLF _ _ upd_same)
      have fLF : upd (upd (upd H2 SP (.lst [])) LF (.lst (nats (List.range m)))) t1 (.tup [.ref SP, .ref LF]) LF = some (.lst (nats (List.range m))) := same_new ht1 _ _ upd_same
      have nSP := pen2.nn hSP
      have nLF := pen2.nn (show H2 LF = none by rw [upd_ne nSL] at hLF; exact hLF)
      have h2SP := hSP
      have h2LF : H2 LF = none := by rw [upd_ne nSL] at hLF; exact hLF
      generalize upd (upd (upd H2 SP (.lst [])) LF (.lst (nats (List.range m)))) t1 (.tup [.ref SP, .ref LF]) = H3 at sN fSP fLF ⊢
      have pen3 := pen2.mono sN (Nat.le_refl _)
      have kp3 := kp.trans (Kept.of sN)
      refine ⟨.int m, rfl, m, rfl, by omega, by omega, for_range (n := m) (fun i σ H' => ∃ sp lf x12, σ = [some (.ref p), some (.int m), some (.int sd), some (.ref PL), some (oV (lastOfP pr)), x5, x6, x7, x8, x9, some (.ref SP), some (.ref LF), x12, none, none, none] ∧ H' SP = some (.lst (nats sp)) ∧ H' LF = some (.lst (nats lf)) ∧ (sp ++ lf).Perm (List.range m) ∧ sp.length = i ∧ PenAt H' p c cells (n + 4 * m + i) ∧ Kept p H2 H')
        ⟨[], List.range m, _, rfl, fSP, fLF, List.Perm.refl _, rfl, pen3, Kept.of sN⟩ ?_ ?_⟩
      · rintro i σ H4 hi ⟨sp, lf, x12, rfl, gSP, gLF, pm, sl, pen4, kp4⟩
        have ll : sp.length + lf.length = m := by
          have := pm.length_eq
          rw [List.length_append, List.length_range] at this
          exact this
        have nl : (nats lf).length = lf.length := by unfold nats; rw [List.length_map]
        show gName 12 (V.int (0 + (i : Int))) _ _ _
        refine nx_go ?_
        refine ⟨.ref SP, rfl, .inl ⟨rfl, _, SqL.of gSP⟩, .ref LF, rfl, .inl ⟨rfl, _, SqL.of gLF⟩, .ref p, rfl, .ref LF, rfl, .ref LF, lf.length, rfl, .inl ⟨_, SqL.of gLF, nl.symm⟩, p, c, cells, _, lf.length, rfl, pen4, by omega, by omega, by omega, fun r H5 r0 r1 pen5 kp5 => ?_⟩
        obtain ⟨j, rfl⟩ : ∃ j : Nat, r = j := ⟨_, (Int.toNat_of_nonneg r0).symm⟩
        have jl : j < lf.length := by omega
        have g5L := kp5 _ _ nLF.1 gLF
        have g5S := kp5 _ _ nSP.1 gSP
        have ej : (nats lf)[j]? = some (.int (lf[j] : Nat)) := by unfold nats; rw [List.getElem?_map, List.getElem?_eq_getElem jl]; rfl
        refine ⟨LF, _, _, j, _, rfl, rfl, g5L, by omega, by omega, (by rw [PySem.seqIndex_of r0 (by rw [nl]; exact r1)]; rfl), ej, ?_⟩
        refine ⟨SP, _, _, rfl, rfl, by rw [upd_ne nSL.symm]; exact g5S, by rw [show (nats sp).length = sp.length from by unfold nats; rw [List.length_map]]; exact Nat.lt_of_lt_of_le (show sp.length < 300 by omega) (by decide), ?_⟩
        refine ⟨sp ++ [lf[j]], lf.eraseIdx j, _, rfl, by rw [upd_same]; unfold nats; rw [List.map_append]; rfl, ?_, ?_, by rw [List.length_append, sl]; rfl, ?_, ?_⟩
        · rw [upd_ne nSL, upd_same]
          unfold nats
          rw [map_erase]
        · refine List.Perm.trans ?_ pm
          rw [List.append_assoc]
          exact List.Perm.append_left _ (erase_perm jl)
        · exact ((pen5.upd nLF).upd nSP).more (by omega)
        · exact ((kp4.trans kp5).upd h2LF).upd h2SP
      · rintro σ H4 ⟨sp, lf, x12, rfl, gSP, gLF, pm, sl, pen4, kp4⟩
        have pm2 : sp.Perm (List.range pr.length) := by
          have h1 := pm.length_eq
          rw [List.length_append, List.length_range] at h1
          have : lf = [] := List.length_eq_zero_iff.mp (by omega)
          rw [this, List.append_nil] at pm
          rw [hl]
          exact pm
        have fPL4 := kp4 _ _ nPL fPL
        have rw4 : Rws H4 ps pr := Paired.mapP rw_ fun q r e => kp4 _ _ (fun z => by
          obtain ⟨a1, g1, h1, _⟩ := pen2.ex
          unfold RowAt at e
          rw [z, h1] at e
          cases e) e
        have kp4H := kp.trans kp4
        clear rw_ kp4 kp kp3 pen3 sN fSP fLF pen2 fPL gLF
        have spl : sp.length = m := by rw [pm2.length_eq, List.length_range, hl]
        have nSPl : (nats sp).length = m := by unfold nats; rw [List.length_map, spl]
        have m16 : m < sizeLine := Nat.lt_of_le_of_lt m2 (by decide)
        have pl4 : ps.length = m := by rw [Paired.length rw4, hl]
        refine ⟨.int m, rfl, m, rfl, by omega, by omega, fun PP hPP => ?_⟩
        have nPP := (pen4.nn hPP).1
        refine lc_it (walk_range (lo := 0) (n := m)) (fun i H' => H' = upd H4 PP (.lst (nats ((List.range i).map fun s => sp.idxOf s)))) rfl (fun _ _ _ _ => True.intro) ?_ ?_
        · rintro i x H5 H6 hi rfl ⟨rfl, hx⟩
          have ex : x = .int (i : Int) := by
            rw [hx]
            show V.int (0 + (i : Int)) = _
            rw [Int.zero_add]
          subst ex
          have il : i < pr.length := by omega
          have ixl := List.idxOf_lt_length_of_mem ((sp_mem pm2).mpr il)
          have gi : sp[sp.idxOf i]? = some i := by rw [List.getElem?_eq_getElem ixl, List.getElem_idxOf]
          have g5 := same_new (o := .lst (nats ((List.range i).map fun s => sp.idxOf s))) hPP _ _ gSP
          refine ⟨rfl, yes_go ⟨.ref SP, rfl, .inl ⟨rfl, _, SqL.of g5⟩, .int i, rfl, ?_⟩⟩
          refine ⟨SP, nats sp, .int i, sp.idxOf i, .int i, rfl, rfl, SqL.of g5, rfl, nats_flat _, by unfold nats; rw [List.getElem?_map, gi]; rfl, by show (i : Int) == (i : Int); simp, fun k z' hk hz => ?_, ?_⟩
          · unfold nats at hz
            rw [List.getElem?_map] at hz
            obtain ⟨y, hy, rfl⟩ := Option.map_eq_some_iff.mp hz
            show ((y : Int) == (i : Int)) = false
            have ne : y ≠ i := fun e => by
              subst e
              have := List.not_of_lt_findIdx (p := fun x => x == y) (xs := sp) (i := k) hk
              rw [(List.getElem?_eq_some_iff.mp hy).2] at this
              simp at this
            simp
            omega
          · refine ⟨_, upd_same, ?_, ?_⟩
            · unfold nats
              rw [List.length_map, List.length_map, List.length_range]
              omega
            · rw [upd_upd, List.range_succ, List.map_append]
              unfold nats
              rw [List.map_append]
              rfl
        rintro H5 rfl
        have s5 := same_new (o := .lst (nats ((List.range m).map fun s => sp.idxOf s))) hPP
        have fPP : upd H4 PP (.lst (nats ((List.range m).map fun s => sp.idxOf s))) PP = some (.lst (nats (placesOf sp pr.length))) := by rw [upd_same, ← hl]; rfl
        have pen5 := pen4.mono s5 (Nat.le_refl _)
        have kp5 := kp4H.trans (Kept.of s5)
        have g5 := s5 _ _ gSP
        have fPL5 := s5 _ _ fPL4
        have rw5 : Rws (upd H4 PP (.lst (nats ((List.range m).map fun s => sp.idxOf s)))) ps pr := rw4.keep fun q x e => s5 _ _ e
        generalize upd H4 PP (.lst (nats ((List.range m).map fun s => sp.idxOf s))) = H5 at s5 fPP pen5 kp5 g5 fPL5 rw5 ⊢
        clear pen4 kp4H gSP fPL4 rw4 s5 hPP
        refine ⟨.ref SP, rfl, SP, rfl, ⟨_, SqL.of g5⟩, fun D1 hD1 => ?_⟩
        have nD1 := (pen5.nn hD1).1
        refine lc_it (walk_list (K := K) (a := SP) (xs := nats sp)) (fun i H' => H' = upd H5 D1 (.lst (((sp.take i).map fun s => ps.getD s PL).map V.ref))) rfl (fun i H' _ e => by rw [e]; exact SqL.of (same_new hD1 _ _ g5)) ?_ ?_
        · rintro i x H6 H7 hi rfl ⟨rfl, hx⟩
          have hi2 : i < sp.length := by omega
          have ex : x = .int (sp[i] : Nat) := by
            unfold nats at hx
            rw [List.getElem?_map, List.getElem?_eq_getElem hi2] at hx
            exact (Option.some.inj hx).symm
          subst ex
          have hs : sp[i] < pr.length := (sp_mem pm2).mp (List.getElem_mem hi2)
          have g6 := same_new (o := .lst (((sp.take i).map fun s => ps.getD s PL).map V.ref)) hD1 _ _ fPL5
          refine ⟨rfl, yes_go ⟨.ref PL, rfl, .int (sp[i] : Nat), rfl, Sq.ix (.inl (SqL.of g6)) (show atI (ps.map V.ref) ((sp[i] : Nat) : Int) = some (.ref (ps[sp[i]]'(by omega))) from at_nat (by rw [List.getElem?_map, List.getElem?_eq_getElem (show sp[i] < ps.length by omega)]; rfl)) ⟨_, upd_same, ?_, ?_⟩⟩⟩
          · rw [List.length_map, List.length_map, List.length_take]
            omega
          · rw [upd_upd, List.take_add_one, List.getElem?_eq_getElem hi2, List.map_append, List.map_append]
            congr 3
            show [V.ref _] = [V.ref (ps.getD sp[i] PL)]
            rw [List.getD_eq_getElem?_getD, List.getElem?_eq_getElem (show sp[i] < ps.length by omega)]
            rfl
        rintro H6 rfl
        rw [nSPl, ← spl, List.take_of_length_le (Nat.le_refl _)]
        have s6 := same_new (o := .lst ((sp.map fun s => ps.getD s PL).map V.ref)) hD1
        have fD1 : upd H5 D1 (.lst ((sp.map fun s => ps.getD s PL).map V.ref)) D1 = some (.lst ((sp.map fun s => ps.getD s PL).map V.ref)) := upd_same
        have pen6 := pen5.mono s6 (Nat.le_refl _)
        have kp6 := kp5.trans (Kept.of s6)
        have fPP6 := s6 _ _ fPP
        have rw6 : ∀ s, s < pr.length → RowAt (upd H5 D1 (.lst ((sp.map fun s => ps.getD s PL).map V.ref))) (ps.getD s PL) (pr.getD s r0) := fun s h => by
          have := paired_at rw5 (i := s) (by omega) h
          rw [List.getD_eq_getElem?_getD, List.getD_eq_getElem?_getD, List.getElem?_eq_getElem (show s < ps.length by omega), List.getElem?_eq_getElem h]
          exact s6 _ _ this
        generalize upd H5 D1 (.lst ((sp.map fun s => ps.getD s PL).map V.ref)) = H6 at s6 fD1 pen6 kp6 fPP6 rw6 ⊢
        clear pen5 kp5 fPP rw5 g5 fPL5 s6 hD1
        have lD1 : (sp.map fun s => ps.getD s PL).length = sp.length := List.length_map _
        refine ⟨.ref D1, rfl, D1, rfl, ⟨_, SqL.of fD1⟩, fun D2 hD2 => ?_⟩
        have nD2 := (pen6.nn hD2).1
        refine lc_it (walk_list (K := K) (a := D1) (xs := (sp.map fun s => ps.getD s PL).map V.ref)) (fun i H' => ∃ qs : List Addr, H' D2 = some (.lst (qs.map V.ref)) ∧ Rws H' qs ((sp.take i).map fun s => reT (placesOf sp pr.length) (pr.getD s r0)) ∧ Same H6 H') ⟨[], upd_same, .nil, same_new hD2⟩ (fun i H' _ ⟨_, _, _, s'⟩ => SqL.of (s' _ _ fD1)) ?_ ?_
        · rintro i x H7 H8 hi ⟨qs, fq, rq, s7⟩ ⟨rfl, hx⟩
          have hi2 : i < sp.length := by rw [List.length_map, List.length_map] at hi; exact hi
          have hs : sp[i] < pr.length := (sp_mem pm2).mp (List.getElem_mem hi2)
          have ex : x = .ref (ps.getD sp[i] PL) := by
            rw [List.getElem?_map, List.getElem?_map, List.getElem?_eq_getElem hi2] at hx
            exact (Option.some.inj hx).symm
          subst ex
          have ra := s7 _ _ (rw6 sp[i] hs)
          have told : ∀ x, (pr.getD sp[i] r0).t = some x → ∃ q : Nat, x = q ∧ q < pr.length := fun x e => by
            rw [List.getD_eq_getElem?_getD, List.getElem?_eq_getElem hs] at e
            have e : pr[sp[i]].t = some x := e
            obtain ⟨_, _, _, _, a5⟩ := pn.at_ sp[i] pr[sp[i]] (List.getElem?_eq_getElem hs)
            rw [e] at a5
            split at a5
            · obtain ⟨a, q, b, e1, _, _, e4⟩ := OM.lastP_some a5.symm
              have : q ∈ List.range sp[i] := by rw [e1]; exact List.mem_append_right _ List.mem_cons_self
              exact ⟨q, e4, Nat.lt_trans (List.mem_range.mp this) hs⟩
            · cases a5
          have tk : (sp.take (i + 1)).map (fun s => reT (placesOf sp pr.length) (pr.getD s r0)) = (sp.take i).map (fun s => reT (placesOf sp pr.length) (pr.getD s r0)) ++ [reT (placesOf sp pr.length) (pr.getD sp[i] r0)] := by
            rw [List.take_add_one, List.getElem?_eq_getElem hi2, List.map_append]
            rfl
          rw [tk]
          have lq : qs.length = i := by
            rw [Paired.length rq, List.length_map, List.length_take]
            omega
          generalize ps.getD sp[i] PL = q0 at ra ⊢
          generalize pr.getD sp[i] r0 = r at ra told ⊢
          generalize (sp.take i).map (fun s => reT (placesOf sp pr.length) (pr.getD s r0)) = done at rq ⊢
          have ra : H8 q0 = some (.tup (rowV r)) := ra
          refine ⟨rfl, yes_go ⟨.ref q0, rfl, 4, rfl, q0, _, rfl, SqT.of ra, ?_, fun u hu => ?_⟩⟩
          · rintro ⟨_, h⟩
            have h : HT.sIx 5 5 (some 4) = 5 := h
            have := HT.sIx_nat 5 5 4
            rw [show ((4 : Nat) : Int) = 4 from rfl] at this
            rw [this] at h
            cases h
          have ec : cutV (rowV r) none (some 4) = [.str r.c, .str (wd r.g), .int r.b, oV r.e] := rfl
          rw [ec]
          have su := same_new (o := .tup [.str r.c, .str (wd r.g), .int r.b, oV r.e]) hu
          have fu : upd H8 u (.tup [.str r.c, .str (wd r.g), .int r.b, oV r.e]) u = some (.tup [.str r.c, .str (wd r.g), .int r.b, oV r.e]) := upd_same
          generalize upd H8 u (.tup [.str r.c, .str (wd r.g), .int r.b, oV r.e]) = H9 at su fu ⊢
          have r9 := su _ _ ra
          have at4 : atI (rowV r) 4 = some (oV r.t) := at_nat (i := 4) rfl
          have endG : ∀ v, v = oV (reT (placesOf sp pr.length) r).t → [v].length ≤ sizeLine ∧ ∀ z, H9 z = none → rCatA K (.ref u) (.ref z) (upd H9 z (.tup [v])) fun v' H'' => ∃ xs, H'' D2 = some (.lst xs) ∧ xs.length < sizeLine ∧ ∃ qs' : List Addr, upd H'' D2 (.lst (xs ++ [v'])) D2 = some (.lst (qs'.map V.ref)) ∧ Rws (upd H'' D2 (.lst (xs ++ [v']))) qs' (done ++ [reT (placesOf sp pr.length) r]) ∧ Same H6 (upd H'' D2 (.lst (xs ++ [v']))) := fun v ev => by
            subst ev
            refine ⟨by show 1 ≤ sizeLine; decide, fun z hz => ⟨u, z, _, _, rfl, rfl, SqT.of (same_new hz _ _ fu), SqT.of upd_same, by show 4 + 1 ≤ sizeLine; decide, fun e => (by cases e), fun _ e => (by cases e), fun _ _ y hy => ?_⟩⟩
            have sy := su.trans ((same_new (o := .tup [oV (reT (placesOf sp pr.length) r).t]) hz).trans (same_new (o := .tup ([.str r.c, .str (wd r.g), .int r.b, oV r.e] ++ [oV (reT (placesOf sp pr.length) r).t])) hy))
            have fq2 := sy _ _ fq
            have fy : upd (upd H9 z (.tup [oV (reT (placesOf sp pr.length) r).t])) y (.tup ([.str r.c, .str (wd r.g), .int r.b, oV r.e] ++ [oV (reT (placesOf sp pr.length) r).t])) y = some (.tup (rowV (reT (placesOf sp pr.length) r))) := upd_same
            generalize upd (upd H9 z (.tup [oV (reT (placesOf sp pr.length) r).t])) y (.tup ([.str r.c, .str (wd r.g), .int r.b, oV r.e] ++ [oV (reT (placesOf sp pr.length) r).t])) = HZ at sy fq2 fy ⊢
            have keepT : ∀ q x, HZ q = some (.tup x) → upd HZ D2 (.lst (qs.map V.ref ++ [.ref y])) q = some (.tup x) := fun q x e => by
              rw [upd_ne (fun z => by rw [z, fq2] at e; cases e)]
              exact e
            refine ⟨_, fq2, ?_, qs ++ [y], by rw [upd_same, List.map_append]; rfl, Paired.snoc (Paired.mapP rq fun q r e => keepT _ _ (sy _ _ e)) (keepT _ _ fy), fun b o e => ?_⟩
            · rw [List.length_map, lq]
              omega
            · rw [upd_ne (ne_of_none e hD2)]
              exact (s7.trans sy) b o e
          refine ⟨.ref q0, rfl, Sq.ix (.inr (SqT.of r9)) at4 ⟨rfl, r.t.isNone, (by cases r.t <;> rfl), ?_⟩⟩
          cases ht : r.t with
          | none => exact iteT' (endG _ (by show V.non = oV (r.t.map _); rw [ht]; rfl))
          | some x =>
            obtain ⟨qn, rfl, hq⟩ := told x ht
            refine iteF' ⟨.ref PP, rfl, .ref q0, rfl, Sq.ix (.inr (SqT.of r9)) (by rw [at4, ht]; rfl) (Sq.ix (.inl (SqL.of (su _ _ (s7 _ _ fPP6)))) (show atI (nats (placesOf sp pr.length)) ((qn : Nat) : Int) = some (.int (sp.idxOf qn : Nat)) from at_nat (by unfold nats; rw [List.getElem?_map, places_get hq]; rfl)) (endG _ ?_))⟩
            show _ = oV (r.t.map fun x => ((((placesOf sp pr.length)[x.toNat]?).getD 0 : Nat) : Int))
            rw [ht]
            show _ = V.int ((((placesOf sp pr.length)[((qn : Nat) : Int).toNat]?).getD 0 : Nat) : Int)
            rw [Int.toNat_natCast, places_get hq]
            rfl
        rintro H7 ⟨qs, fq, rq, s7⟩
        rw [List.length_map, lD1, List.take_of_length_le (Nat.le_refl _)] at rq
        have rq : Rws H7 qs (mixR pr sp (placesOf sp pr.length)) := rq
        refine ⟨.ref D2, rfl, .ref PP, rfl, PP, _, rfl, .inl ⟨SqL.of (s7 _ _ fPP6), fun o ho => ⟨by show 2 ≤ sizeLine; decide, fun t ht => ?_⟩⟩⟩
        have so := (same_new (o := .tup (nats (placesOf sp pr.length))) ho).trans (same_new (o := .tup [.ref D2, .ref o]) ht)
        have lm : (mixR pr sp (placesOf sp pr.length)).length = m := by unfold mixR; rw [List.length_map, spl]
        refine q t D2 o (mixR pr sp (placesOf sp pr.length)) (placesOf sp pr.length) _ nD2 ((pen6.mono (s7.trans so) (Nat.le_refl _)).more (by omega)) (kp6.trans (Kept.of (s7.trans so))) upd_same ?_ (same_new ht _ _ upd_same) (led_of pn pm2) lm
        refine ⟨qs, so _ _ fq, Paired.length rq, fun i q' r' e1 e2 => ?_⟩
        obtain ⟨h1, e1⟩ := List.getElem?_eq_some_iff.mp e1
        obtain ⟨h2, e2⟩ := List.getElem?_eq_some_iff.mp e2
        have := paired_at rq h1 h2
        rw [e1, e2] at this
        exact so _ _ this
end
end K36
end

section
set_option Elab.async false
set_option linter.all false
set_option maxRecDepth 100000
set_option maxHeartbeats 4000000
/-! rows that are drawn -/
namespace K36
open PySem L2 KZ
abbrev sRows : Stmt := top 33
structure RowOk (gs : List Bool) (s : Int) (g : Bool) (r : Row) : Prop where
  c : r.c = ("a" : Str)
  g : r.g = g
  b0 : 0 ≤ r.b
  b1 : r.b < s
  e0 : ∀ e, r.e = some e → r.b < e ∧ e < 2 * s + 1
  t0 : ∀ t, r.t = some t → r.g = true ∧ r.e ≠ none ∧ ∃ u : Nat, t = u ∧ gs[u]? = some false
def RowsOk (gs : List Bool) (s : Int) (rs : List Row) : Prop := rs.length ≤ gs.length ∧ ∀ (i : Nat) r g, rs[i]? = some r → gs[i]? = some g → RowOk gs s g r
theorem RowsOk.row {gs : List Bool} {s : Int} {rs : List Row} (h : RowsOk gs s rs) {r : Row} (m : r ∈ rs) : ∃ g, RowOk gs s g r := by
  obtain ⟨i, hi, rfl⟩ := List.mem_iff_getElem.mp m
  have hg : i < gs.length := by have := h.1; omega
  exact ⟨gs[i], h.2 i _ _ (List.getElem?_eq_getElem hi) (List.getElem?_eq_getElem hg)⟩
theorem RowOk.ok {gs : List Bool} {s : Int} {g : Bool} {r : Row} (h : RowOk gs s g r) : r.Ok := by
  refine ⟨?_, h.b0, fun e z => (h.e0 e z).1, fun t z => ?_⟩
  · rw [h.c]; decide +kernel
  · obtain ⟨a, b, u, rfl, _⟩ := h.t0 t z
    exact ⟨a, b, by omega⟩
theorem RowOk.short {gs : List Bool} {s : Int} {g : Bool} {r : Row} (h : RowOk gs s g r) : r.c.length ≤ 8 := by
  rw [h.c]; decide +kernel
theorem RowsOk.ok {gs : List Bool} {s : Int} {rs : List Row} (h : RowsOk gs s rs) : ∀ r ∈ rs, r.Ok := fun r m => by
  obtain ⟨g, k⟩ := h.row m
  exact k.ok
theorem RowsOk.nobad {gs : List Bool} {s : Int} {rs : List Row} (h : RowsOk gs s rs) (e : rs.length = gs.length) : firstBad rs = none := by
  unfold firstBad
  rw [List.find?_range_eq_none]
  intro i hi
  unfold badAt
  rw [List.getElem?_eq_getElem hi]
  have hg : i < gs.length := by omega
  have k := h.2 i _ _ (List.getElem?_eq_getElem hi) (List.getElem?_eq_getElem hg)
  generalize rs[i] = r at k
  show (!(match r.t with
    | none => false
    | some j => decide ((rs.length : Int) ≤ j) || (match rs[j.toNat]? with
      | some r => r.g
      | none => true))) = true
  cases ht : r.t with
  | none => rfl
  | some t =>
    obtain ⟨_, _, u, rfl, hu⟩ := k.t0 t ht
    have hul : u < gs.length := (List.getElem?_eq_some_iff.mp hu).1
    have hur : u < rs.length := by omega
    have k2 := h.2 u _ _ (List.getElem?_eq_getElem hur) hu
    show (!(decide ((rs.length : Int) ≤ (u : Int)) || (match rs[((u : Int)).toNat]? with
      | some r => r.g
      | none => true))) = true
    rw [show ((u : Int)).toNat = u from rfl, List.getElem?_eq_getElem hur]
    show (!(decide ((rs.length : Int) ≤ (u : Int)) || rs[u].g)) = true
    rw [k2.g, decide_eq_false (by omega)]
    rfl
def spRows : Sp := fun vs H Q _ => ∃ (p c : Addr) (cells : List Int) (n k : Nat) (s : Int), vs = [.ref p, .int k, .int s] ∧ PenAt H p c cells n ∧ n ≤ 5000 ∧ k ≤ 14 ∧ 0 < s ∧ s ≤ 1000000000000 ∧
  ∀ a gs rs H', H a = none → gs.length = k → rs.length = k → RowsOk gs s rs → RowsAt H' a rs → PenAt H' p c cells (n + 100) → Kept p H H' → Q (.ref a) H'
def putsB (gs : List Bool) (i : Nat) : Bool := match gs[i]? with
  | some g => !g
  | none => false
section
variable {P : Program} {w : World} {K : PySem.W.Frag} {mg : Str → Option Value} {base : Heap} {fD fO : Addr} {dD dO : FuncData}
theorem scRows : FnScope ["well", "many", "span", "words", "turn", "puts_so", "found", "at", "begun", "ended", "told"] ["well", "many", "span"] (defScope sRows) := ⟨rfl, rfl, rfl, by decide +kernel, rfl, by decide +kernel, by decide +kernel⟩
theorem ok_rows {f : Addr} {fd : FuncData} (F : Fun K "_law_rows" "_law_rows" sRows f fd) (T : B1 mg) (draw : Cal P w K mg base "_law_draw" 1 ["well", "many"] spDraw) (one : Cal P w K mg base "_law_one" 2 ["well", "some"] spOne) : FnOk P w K mg base CX0 3 f fd ["well", "many", "span"] spRows := by
  obtain ⟨fD, dD, gD, GD, kD, bD⟩ := draw.ex
  obtain ⟨fO, dO, gO, GO, kO, bO⟩ := one.ex
  refine F.ok scRows (fun vs H Q E h => ?_) (fun cdv A' outer s0 H vs Q E hr h => ?_)
  · obtain ⟨p, c, cells, n, k, s, rfl, _⟩ := h
    rfl
  · obtain ⟨p, c, cells, n, k, s, rfl, pen, hn, hk, hs0, hs1, q⟩ := h
    have hr2 : Room 2 _ := hr
    have hr1 : Room 1 _ := hr.mono (by decide)
    refine ⟨_, (pss_cons (ps_set (i := 3) scRows.nd rfl (Or.inr rfl) (pe_lc (own := [("turn", 4)]) (g := gName 4) (tt := tYes) (by rfl) scRows.nd (pi_range1 (by rfl) T.range (pa_cons (pv 1) pa_nil)) (blkOk_by (own := [("turn", 4)]) (N := ["well", "many", "span", "words", "turn", "puts_so", "found", "at", "begun", "ended", "told"]) (sc := defScope sRows) (by decide +kernel)) (fun _ _ _ _ _ => pg_name (i := 4) scRows.nd rfl (Or.inl rfl)) (fun _ _ _ _ _ => pts_nil) (fun _ _ _ _ _ => pe_call GO hr2 (by rfl) gO kO bO .nil pass0 (pa_cons (pv 0) (pa_cons (pe_lst (pa_cons pe_str (pa_cons pe_str pa_nil))) pa_nil)))))
(pss_cons (ps_par (i := 5) (j := 6) (by rfl) scRows.nd rfl rfl (by decide) rfl rfl (pa_cons (pe_lc (own := [("at", 7)]) (g := gName 7) (by rfl) scRows.nd (pi_range1 (by rfl) T.range (pa_cons (pv 1) pa_nil)) (blkOk_by (own := [("at", 7)]) (N := ["well", "many", "span", "words", "turn", "puts_so", "found", "at", "begun", "ended", "told"]) (sc := defScope sRows) (by decide +kernel)) (fun _ _ _ _ _ => pg_name (i := 7) scRows.nd rfl (Or.inl rfl)) (fun _ _ _ _ _ => pts_one (pt_cmpR op_eq (pe_ix (ix_seqK K) (pv 3) (pv 7) (fun _ _ => rfl)) pe_str (nomark _))) (fun _ _ _ _ _ => pv 7)) (pa_cons (pe_lst pa_nil) pa_nil)) (by rfl))
(pss_cons (ps_for PassesOwn.never rfl (pi_range1 (by rfl) T.range (pa_cons (pv 1) pa_nil)) (pg_name (i := 7) scRows.nd rfl (Or.inl rfl))
(pss_cons (ps_set (i := 8) scRows.nd rfl (Or.inl rfl) (pe_call GD hr1 (by rfl) gD kD bD .nil pass0 (pa_cons (pv 0) (pa_cons (pv 2) pa_nil))))
(pss_cons (ps_set (i := 9) scRows.nd rfl (Or.inl rfl) (pe_ifExp (pt_cmpR op_eq (pe_call GD hr1 (by rfl) gD kD bD .nil pass0 (pa_cons (pv 0) (pa_cons pe_int pa_nil))) pe_int (nomark _)) pe_non (pe_op op_add (pe_op op_add (pv 8) pe_int) (pe_call GD hr1 (by rfl) gD kD bD .nil pass0 (pa_cons (pv 0) (pa_cons (pv 2) pa_nil))))))
(pss_cons (ps_set (i := 10) scRows.nd rfl (Or.inl rfl) pe_non)
(pss_cons (ps_if (PW.pt (pw_and (pt_cmpR op_eq (pe_ix (ix_seqK K) (pv 3) (pv 7) (fun _ _ => rfl)) pe_str (nomark _)) (pw_and (pt_cmpR op_notN (pv 9) pe_non (nomark _)) (pw_and (pt_cmpR (op_neD hr.units) (pv 5) (pe_lst pa_nil) (nomark _)) (pw_and1 (pt_cmpR op_gt (pe_call GD hr1 (by rfl) gD kD bD .nil pass0 (pa_cons (pv 0) (pa_cons pe_int pa_nil))) pe_int (nomark _)))))))
(pss_one (ps_set (i := 10) scRows.nd rfl (Or.inl rfl) (pe_call GO hr2 (by rfl) gO kO bO .nil pass0 (pa_cons (pv 0) (pa_cons (pv 5) pa_nil)))))
pss_nil)
(pss_one (ps_expr (pe_bm PySem.F.plainAttrs_list PySem.F.slot_list_append PySem.F.type_list_append mt_append (pv 6) (pa_cons (pe_tup (pa_cons pe_str (pa_cons (pe_ix (ix_seqK K) (pv 3) (pv 7) (fun _ _ => rfl)) (pa_cons (pv 8) (pa_cons (pv 9) (pa_cons (pv 10) pa_nil)))))) pa_nil)))))))))
(pss_one (ps_ret (pv 6)))))), ?_⟩
    refine ⟨.int k, rfl, (k : Int), rfl, by omega, by omega, fun W hW => ?_⟩
    have hWp := pen.nn hW
    refine lc_it (walk_range (lo := 0) (n := k)) (fun i H' => ∃ gs : List Bool, gs.length = i ∧ H' W = some (.lst (gs.map fun g => V.str (wd g))) ∧ PenAt H' p c cells (n + i) ∧ Kept p H H') ⟨[], rfl, upd_same, pen.mono (same_new hW) (by omega), Kept.of (same_new hW)⟩ (fun _ _ _ _ => True.intro) ?_ ?_
    · rintro i x H0_ H1 hi ⟨gs, gl, hw, pn, kp⟩ ⟨rfl, _⟩
      refine ⟨rfl, yes_go ⟨.ref p, rfl, by show 2 ≤ sizeLine; decide, fun L hL => ?_⟩⟩
      have pl : PenAt (upd H1 L (.lst [V.str "put", V.str "get"])) p c cells (n + i) := pn.mono (same_new hL) (Nat.le_refl _)
      refine ⟨p, c, L, cells, n + i, _, rfl, pl, by omega, upd_same, (pn.nn hL).1, by decide, by decide, fun j x H3 ex pn3 kp3 => ?_⟩
      obtain ⟨g, rfl⟩ : ∃ g, x = .str (wd g) := by
        rcases j with _ | _ | j
        · exact ⟨false, (Option.some.inj ex).symm⟩
        · exact ⟨true, (Option.some.inj ex).symm⟩
        · cases ex
      have kl : Kept p H H3 := kp.trans ((Kept.of (same_new hL)).trans kp3)
      refine ⟨_, kp3 _ _ hWp.1 (same_new hL _ _ hw), ?_, gs ++ [g], ?_, ?_, pn3.upd hWp, kl.upd hW⟩
      · rw [List.length_map, gl]
        exact Nat.lt_of_lt_of_le (show i < 14 by omega) (by decide)
      · rw [List.length_append, gl]; rfl
      · rw [upd_same, List.map_append]; rfl
    rintro H2 ⟨gs, gl, hw, pn, kp⟩
    -- the puts
    refine ⟨.int k, rfl, (k : Int), rfl, by omega, by omega, fun U hU => ?_⟩
    have hUp := pn.nn hU
    refine lc_it (walk_range (lo := 0) (n := k)) (fun i H' => H' = upd H2 U (.lst (nats ((List.range i).filter (putsB gs))))) rfl (fun _ _ _ _ => True.intro) ?_ ?_
    · rintro i x H3 H4 hi rfl ⟨rfl, hx⟩
      have ex : x = .int (i : Int) := by
        rw [hx]
        show V.int (0 + (i : Int)) = _
        rw [Int.zero_add]
      subst ex
      obtain ⟨g, hg⟩ : ∃ g, gs[i]? = some g := ⟨_, List.getElem?_eq_getElem (show i < gs.length by omega)⟩
      have atw : atI (gs.map fun g => V.str (wd g)) (i : Int) = some (.str (wd g)) := at_nat (by rw [List.getElem?_map, hg]; rfl)
      have tk : nats ((List.range (i + 1)).filter (putsB gs)) = nats ((List.range i).filter (putsB gs)) ++ (if g = false then [V.int (i : Int)] else []) := by
        have pb : putsB gs i = !g := by unfold putsB; rw [hg]
        rw [List.range_succ, List.filter_append]
        cases g with
        | true => simp [nats, pb]
        | false => simp [nats, pb]
      rw [tk]
      refine ⟨rfl, .ref W, rfl, .int i, rfl, Sq.ix (.inl (SqL.of (same_new hU _ _ hw))) atw ⟨rfl, !g, (by cases g <;> decide +kernel), ?_⟩⟩
      cases g with
      | true =>
        show _ = _
        rw [if_neg (by decide), List.append_nil]
      | false =>
        refine ⟨_, rfl, _, upd_same, ?_, ?_⟩
        · unfold nats
          rw [List.length_map]
          refine Nat.lt_of_le_of_lt (Nat.le_trans (List.length_filter_le _ _) (show _ ≤ 14 from ?_)) (by decide)
          rw [List.length_range]
          omega
        · rw [upd_upd]
          rfl
    rintro H3 rfl
    refine ⟨Nat.zero_le _, fun F hF => ⟨_, _, rfl, ?_⟩⟩
    have s3 : Same H2 (upd H2 U (.lst (nats ((List.range k).filter (putsB gs))))) := same_new hU
    have hu3 : upd H2 U (.lst (nats ((List.range k).filter (putsB gs)))) U = some (.lst (nats ((List.range k).filter (putsB gs)))) := upd_same
    have pn3 := pn.mono s3 (Nat.le_refl _)
    have kp3 := kp.trans (Kept.of s3)
    have hw3 := s3 _ _ hw
    generalize upd H2 U (.lst (nats ((List.range k).filter (putsB gs)))) = H3 at hF pn3 kp3 hw3 hu3 ⊢
    have hFp := pn3.nn hF
    have fin0 : ∀ (g : Bool) (i : Nat), gs[i]? = some g → atI (gs.map fun g => V.str (wd g)) (i : Int) = some (.str (wd g)) := fun g i hg => at_nat (by rw [List.getElem?_map, hg]; rfl)
    refine ⟨.int k, rfl, (k : Int), rfl, by omega, by omega, for_range (n := k) (fun i σ H' => ∃ x7 x8 x9 x10 rs ps, σ = [some (.ref p), some (.int k), some (.int s), some (.ref W), none, some (.ref U), some (.ref F), x7, x8, x9, x10] ∧ rs.length = i ∧
      (∀ (j : Nat) r g, rs[j]? = some r → gs[j]? = some g → RowOk gs s g r) ∧ H' F = some (.lst (ps.map V.ref)) ∧ ps.length = i ∧ (∀ (j : Nat) q r, ps[j]? = some q → rs[j]? = some r → RowAt H' q r) ∧ PenAt H' p c cells (n + 14 + 6 * i) ∧ Kept p H3 H')
      ⟨_, _, _, _, [], [], rfl, rfl, fun j r g e => (by cases e), upd_same, rfl, fun j q r e => (by cases e), (pn3.mono (same_new hF) (by omega)), Kept.of (same_new hF)⟩ ?_ ?_⟩
    · rintro i σ H5 hi ⟨x7, x8, x9, x10, rs, ps, rfl, rl, ro, hf, pl, ra, pn5, kp5⟩
      obtain ⟨g, hg⟩ : ∃ g, gs[i]? = some g := ⟨_, List.getElem?_eq_getElem (show i < gs.length by omega)⟩
      have ix0 : (V.int (0 + (i : Int))) = V.int (i : Int) := by rw [Int.zero_add]
      have sqw : ∀ H', Kept p H3 H' → Sq K H' W (gs.map fun g => V.str (wd g)) := fun H' z => .inl (SqL.of (z _ _ hWp.1 hw3))
      have atw := fin0 g i hg
      rw [ix0]
      refine ⟨.ref p, rfl, .int s, rfl, p, c, cells, _, s, rfl, pn5, by omega, hs0, hs1, fun b H6 b0 b1 pn6 kp6 => ?_⟩
      refine nx_go ?_
      dsimp only
      refine asg_of (fun v H' => ∃ e : Option Int, v = oV e ∧ (∀ x, e = some x → b < x ∧ x < 2 * s + 1) ∧ PenAt H' p c cells (n + 14 + 6 * i + 3) ∧ Kept p H5 H') (fun Q z => ?_) (fun v H7 ⟨e, ev, e1, pn7, kp7⟩ => ?_)
      · refine ⟨.ref p, rfl, p, c, cells, _, 6, rfl, pn6, by omega, by decide, by decide, fun d H7 d0 d1 pn7 kp7 => ⟨rfl, decide (d = 0), ?_, ?_⟩⟩
        · by_cases h : d = 0
          · rw [h]; rfl
          · rw [decide_eq_false h, decide_eq_false (fun y => h (V.int.inj y))]
        · by_cases h : d = 0
          · rw [decide_eq_true h]
            exact iteT' (z _ _ ⟨none, rfl, fun x y => (nomatch y), pn7.more (by omega), kp6.trans kp7⟩)
          · rw [decide_eq_false h]
            refine iteF' ⟨_, rfl, b, 1, rfl, rfl, .ref p, rfl, .int s, rfl, p, c, cells, _, s, rfl, pn7, by omega, hs0, hs1, fun y H8 y0 y1 pn8 kp8 => ⟨_, _, rfl, rfl, z _ _ ⟨some (b + 1 + y), rfl, fun x hx => ?_, pn8.more (by omega), kp6.trans (kp7.trans kp8)⟩⟩⟩
            cases hx
            exact ⟨by omega, by omega⟩
      · subst ev
        refine nx_go ?_
        refine seq_c ?_
        refine if_told (fun v H' => PenAt H' p c cells (n + 14 + 6 * i + 4) ∧ Kept p H5 H' ∧ (v = true → g = true ∧ e ≠ none ∧ nats ((List.range k).filter (putsB gs)) ≠ []))
          (fun t H' => PenAt H' p c cells (n + 14 + 6 * i + 5) ∧ Kept p H5 H' ∧ ∀ x, t = some x → g = true ∧ e ≠ none ∧ ∃ u : Nat, x = u ∧ gs[u]? = some false) rfl (fun Q z => ?_) (fun H8 ⟨pn8, kp8, ok8⟩ Q z => ?_) (fun H8 ⟨pn8, kp8, _⟩ => ⟨pn8.more (by omega), kp8, fun x y => (nomatch y)⟩) (fun t H8 ⟨pn8, kp8, tk⟩ => ?_)
        · refine ⟨.ref W, rfl, .int i, rfl, Sq.ix (sqw _ (kp5.trans kp7)) atw ⟨rfl, g, (by cases g <;> decide +kernel), ?_⟩⟩
          cases hgv : g with
          | false => exact iteF' (z _ _ ⟨pn7.more (by omega), kp7, fun y => (nomatch y)⟩)
          | true =>
            refine iteT' ⟨oV e, rfl, rfl, e.isSome, (by cases e <;> rfl), ?_⟩
            cases hev : e with
            | none => exact iteF' (z _ _ ⟨pn7.more (by omega), kp7, fun y => (nomatch y)⟩)
            | some e' =>
              refine iteT' ⟨.ref U, rfl, Nat.zero_le _, fun L hL => ?_⟩
              have hu7 := (kp5.trans kp7) _ _ hUp.1 hu3
              have nm : nats ((List.range k).filter (putsB gs)) = (((List.range k).filter (putsB gs)).map fun (i : Nat) => (i : Int)).map V.int := by
                unfold nats
                rw [List.map_map]
                rfl
              have sL : Same H7 (upd H7 L (.lst [])) := same_new hL
              refine ⟨_, _, Dp.lst (SqL.of (sL _ _ (nm ▸ hu7))) (dp_ints _), Dp.lst (SqL.of upd_same) .nil, shaped_ints _, by decide +kernel, _, rfl, ?_⟩
              rw [eqv_nil]
              have pnL := pn7.mono sL (Nat.le_refl _)
              have kpL : Kept p H5 (upd H7 L (.lst [])) := kp7.trans (Kept.of sL)
              cases hn0 : (((List.range k).filter (putsB gs)).map fun (i : Nat) => (i : Int)).isEmpty with
              | true => exact iteF' (z _ _ ⟨pnL.more (by omega), kpL, fun y => (nomatch y)⟩)
              | false =>
                refine iteT' ⟨.ref p, rfl, p, c, cells, _, 5, rfl, pnL, by omega, by decide, by decide, fun d H8 d0 d1 pn8 kp8 => ⟨d, 0, rfl, rfl, _, rfl, z _ _ ⟨pn8.more (by omega), kpL.trans kp8, fun _ => ⟨hgv, fun y => (by rw [hev] at y; cases y), fun y => ?_⟩⟩⟩⟩
                rw [nm] at y
                rw [List.map_eq_nil_iff.mp y] at hn0
                cases hn0
        · obtain ⟨g1, e2, ne⟩ := ok8 rfl
          have hu8 := (kp5.trans kp8) _ _ hUp.1 hu3
          refine ⟨.ref p, rfl, .ref U, rfl, p, c, U, cells, _, _, rfl, pn8, by omega, hu8, hUp.1, List.length_pos_iff.mpr ne, ?_, fun j x H9 ex pn9 kp9 => ?_⟩
          · unfold nats
            rw [List.length_map]
            refine Nat.le_trans (List.length_filter_le _ _) ?_
            rw [List.length_range]
            omega
          · unfold nats at ex
            rw [List.getElem?_map] at ex
            obtain ⟨u, hu, rfl⟩ := Option.map_eq_some_iff.mp ex
            have mu := (List.mem_filter.mp (List.mem_of_getElem? hu)).2
            refine z (some (u : Int)) _ ⟨pn9.more (by omega), kp8.trans kp9, fun y hy => ⟨g1, e2, u, (Option.some.inj hy).symm, ?_⟩⟩
            unfold putsB at mu
            cases hgu : gs[u]? with
            | none => rw [hgu] at mu; cases mu
            | some gu =>
              rw [hgu] at mu
              cases gu with
              | true => cases mu
              | false => rfl
        · have hf8 := kp8 _ _ hFp.1 hf
          have kp59 := kp8
          have hf9 := hf8
          have pn9 := pn8
          generalize H8 = H9 at hf8 kp59 hf9 pn9 pn8 kp8 ⊢
          refine ⟨.ref F, rfl, .inl ⟨rfl, _, SqL.of hf8⟩, ?_⟩
          refine ⟨.ref W, rfl, .int i, rfl, Sq.ix (sqw _ (kp5.trans kp59)) atw ⟨_, rfl, _, rfl, _, rfl, by show 5 ≤ sizeLine; decide, fun T0 hT0 => ?_⟩⟩
          refine ⟨F, _, _, rfl, rfl, same_new hT0 _ _ hf9, ?_, ?_⟩
          · rw [List.length_map, pl]
            exact Nat.lt_of_lt_of_le (show i < 14 by omega) (by decide)
          · have hT := pn9.nn hT0
            have nFT : T0 ≠ F := (ne_of_none hf9 hT0).symm
            refine ⟨_, _, _, _, rs ++ [⟨"a", g, b, e, t⟩], ps ++ [T0], rfl, by rw [List.length_append, rl]; rfl, ?_, by rw [upd_same, List.map_append]; rfl, by rw [List.length_append, pl]; rfl, ?_, ?_, ?_⟩
            · intro j r g' e3 e4
              by_cases hj : j < rs.length
              · rw [List.getElem?_append_left hj] at e3
                exact ro j r g' e3 e4
              · rw [List.getElem?_append_right (by omega)] at e3
                have hj0 : j - rs.length = 0 := by
                  cases hz : j - rs.length with
                  | zero => rfl
                  | succ m => rw [hz] at e3; cases e3
                rw [hj0] at e3
                have : j = i := by omega
                subst this
                rw [hg] at e4
                cases e3
                cases e4
                exact ⟨rfl, rfl, b0, b1, e1, tk⟩
            · intro j q r e3 e4
              by_cases hj : j < ps.length
              · rw [List.getElem?_append_left hj] at e3
                rw [List.getElem?_append_left (by omega)] at e4
                have old := ra j q r e3 e4
                have qp : q ≠ p := fun z => by
                  obtain ⟨a1, g1, h1, _⟩ := pn5.ex
                  unfold RowAt at old
                  rw [z, h1] at old
                  cases old
                have qF : q ≠ F := fun z => by
                  unfold RowAt at old
                  rw [z, hf] at old
                  cases old
                unfold RowAt
                rw [upd_ne qF]
                exact same_new hT0 _ _ (kp59 _ _ qp old)
              · rw [List.getElem?_append_right (by omega)] at e3
                rw [List.getElem?_append_right (by omega)] at e4
                have hj0 : j - ps.length = 0 := by
                  cases hz : j - ps.length with
                  | zero => rfl
                  | succ m => rw [hz] at e3; cases e3
                rw [hj0] at e3
                rw [show j - rs.length = 0 by omega] at e4
                cases e3
                cases e4
                unfold RowAt
                rw [upd_ne nFT, upd_same]
                rfl
            · exact ((pn9.mono (same_new hT0) (Nat.le_refl _)).upd hFp).more (by omega)
            · exact ((kp5.trans kp59).trans (Kept.of (same_new hT0))).upd hF
    · rintro σ H5 ⟨x7, x8, x9, x10, rs, ps, rfl, rl, ro, hf, pl, ra, pn5, kp5⟩
      exact ⟨.ref F, rfl, q F gs rs H5 (kp3.nn hF hFp.1) gl rl ⟨by omega, ro⟩ ⟨ps, hf, by omega, ra⟩ (pn5.more (by omega)) (kp3.trans kp5)⟩
end
end K36
end

section
set_option Elab.async false
set_option linter.all false
set_option maxRecDepth 100000
set_option maxHeartbeats 4000000
/-! what is read of data; asks that are made of rows -/
namespace K36
open PySem PySem.Spec PyProof.Rows L2 KZ
/-- what can be told of a value -/
def Tell (d : PyData) : Prop := d.showable = true ∧ d.shown.length ≤ 10000 ∧ d.depth ≤ 40
/-- what can be shown -/
structure Sm (L D : Nat) (d : PyData) : Prop where
  sh : d.showable = true
  ln : d.shown.length ≤ L
  dp : d.depth ≤ D
theorem Sm.mono {L D L' D' : Nat} {d : PyData} (h : Sm L D d) (a : L ≤ L') (b : D ≤ D') : Sm L' D' d := ⟨h.sh, Nat.le_trans h.ln a, Nat.le_trans h.dp b⟩
theorem Sm.tell {L D : Nat} {d : PyData} (h : Sm L D d) (a : L ≤ 10000) (b : D ≤ 40) : Tell d := ⟨h.sh, Nat.le_trans h.ln a, Nat.le_trans h.dp b⟩
theorem sm_all {L D : Nat} : ∀ {ds : List PyData}, (∀ d ∈ ds, Sm L D d) → PyData.showableAll ds = true ∧ ((PyData.shownAll ds).map (·.length)).sum ≤ L * ds.length ∧ (PyData.shownAll ds).length = ds.length ∧ PyData.depthAll ds ≤ D
  | [], _ => ⟨by simp only [PyData.showableAll], by simp [PyData.shownAll], by simp [PyData.shownAll], by simp [PyData.depthAll]⟩
  | d :: ds, h => by
    obtain ⟨h1, h2, h3, h4⟩ := sm_all (ds := ds) fun x hx => h x (List.mem_cons_of_mem _ hx)
    obtain ⟨a1, a2, a3⟩ := h d List.mem_cons_self
    refine ⟨by simp only [PyData.showableAll, a1, h1, Bool.and_self], ?_, by simp only [PyData.shownAll, List.length_cons, h3], ?_⟩
    · simp only [PyData.shownAll, List.map_cons, List.sum_cons, List.length_cons, Nat.mul_add, Nat.mul_one]
      omega
    · simp only [PyData.depthAll]
      omega
theorem Sm.tup {L D : Nat} {ds : List PyData} (h : ∀ d ∈ ds, Sm L D d) : Sm (L * ds.length + 2 * ds.length + 3) (D + 1) (.tuple ds) := by
  obtain ⟨h1, h2, h3, h4⟩ := sm_all h
  refine ⟨by simpa only [PyData.showable] using h1, ?_, by simp only [PyData.depth]; omega⟩
  have z := tupleText_len_le (PyData.shownAll ds)
  simp only [PyData.shown]
  rw [h3] at z
  omega
def SmI (i : Int) : Prop := i.natAbs < 10 ^ 13
theorem sm_int {i : Int} (h : SmI i) : Sm 14 0 (.int i) := by
  refine ⟨?_, ?_, Nat.le_refl 0⟩
  · simp only [PyData.showable, decide_eq_true_eq]
    by_cases z : i.natAbs = 0
    · rw [z]; decide
    · exact (Nat.log2_lt z).mpr (Nat.lt_of_lt_of_le h (by
        have : (10 : Nat) ^ 13 ≤ 2 ^ 1920 := Nat.le_trans (show (10 : Nat) ^ 13 ≤ 2 ^ 44 by decide) (Nat.pow_le_pow_right (by decide) (show 44 ≤ 1920 by decide))
        exact this))
  · have e := int_text_length_le10 (k := 13) (by decide) h
    show (Str.ofString (toString i)).length ≤ 14
    rw [PySem.ofString_length]
    exact e
theorem sm_non : Sm 14 0 .none := ⟨rfl, by decide +kernel, Nat.le_refl 0⟩
theorem sm_bool (b : Bool) : Sm 14 0 (.bool b) := by cases b <;> exact ⟨rfl, by decide +kernel, Nat.le_refl 0⟩
theorem sm_opt {o : Option Int} (h : ∀ i, o = some i → SmI i) : Sm 14 0 (oD o) := by
  cases o with
  | none => exact sm_non
  | some i => exact sm_int (h i rfl)
def rowD (r : Row) : PyData := .tuple [.str r.c, .str (wd r.g), .int r.b, oD r.e, oD r.t]
theorem shaped_of {d : PyData} (h1 : PyData.canLay0 d = true) (h2 : PyData.depth d ≤ 64) : SeqAt.shaped d = true := by
  unfold SeqAt.shaped
  rw [h1, decide_eq_true h2]
  rfl
theorem ints_map (l : List Nat) : (l.map fun (i : Nat) => PyData.int (i : Int)) = (l.map fun (i : Nat) => (i : Int)).map PyData.int := by
  rw [List.map_map]
  rfl
theorem eqv_ints : ∀ l : List Int, PyData.eqvAll (l.map .int) (l.map .int) = true
  | [] => rfl
  | i :: l => by
    show ((i == i) && PyData.eqvAll (l.map .int) (l.map .int)) = true
    rw [eqv_ints l]
    simp
section
variable {K : PySem.W.Frag}
theorem oD_dp {H : Hp} (o : Option Int) : Dp K H (oV o) (oD o) := by
  cases o with
  | none => exact .non
  | some i => exact .int i
theorem row_dp {H : Hp} {q : Addr} {r : Row} (h : RowAt H q r) : Dp K H (.ref q) (rowD r) := .tup (SqT.of h) (.cons (.str _) (.cons (.str _) (.cons (.int _) (.cons (oD_dp _) (.cons (oD_dp _) .nil)))))
mutual
theorem dv_of {H : Hp} : ∀ (d : PyData) (v : V), Dp K H v d → Dv K H v d
  | .none, _, h => by cases h; exact .non
  | .bool b, _, h => by cases h; exact .bl b
  | .int i, _, h => by cases h; exact .int i
  | .str x, _, h => by cases h; exact .str x
  | .list ds, _, h => by
    cases h with
    | lst a b => exact .lst a (dvs_of ds _ b)
  | .tuple ds, _, h => by
    cases h with
    | tup a b => exact .tup a (dvs_of ds _ b)
  | .dict _, _, h => by cases h
theorem dvs_of {H : Hp} : ∀ (ds : List PyData) (vs : List V), DpAll K H vs ds → Dvs K H vs ds
  | [], _, h => by cases h; exact .nil
  | d :: ds, _, h => by
    cases h with
    | cons a b => exact .cons (dv_of d _ a) (dvs_of ds _ b)
end
end
theorem AskAt.ne {C : Addr} {H : Hp} {a D : Addr} {r : Row} {xs : List V} (h : AskAt C H a r) (hd : H D = some (.lst xs)) : a ≠ D := fun e => by
  obtain ⟨dx, z⟩ := h
  rw [e, hd] at z
  cases z
section
variable {P : Program} {w : World} {K : PySem.W.Frag} {mg : Str → Option Value} {base : Heap} {C : Addr}
theorem made_lc {R D : Addr} {rs : List Row} {H3 : Hp} {σ : L2.St} {i0 : Nat} {Qd : Hp → Prop} (hR : RowsAt H3 R rs) (ok : ∀ r ∈ rs, r.Ok) (hl : rs.length ≤ 1000) (hs : ∀ r ∈ rs, r.c.length ≤ 1000) (hD : H3 D = none) (h1 : ∀ x, ((wipe σ [i0]).set i0 (some x))[i0]? = some (some x)) (h2 : ∀ x, wipe ((wipe σ [i0]).set i0 (some x)) [i0] = wipe σ [i0])
    (done : ∀ ms H', AsksAt C H' ms rs → H' D = some (.lst (ms.map V.ref)) → Same H3 H' → Qd H') :
    ∃ W : Nat → Nat → Hp → Prop, (∃ m, W 0 m (upd H3 D (.lst []))) ∧ ∀ i m H, W i m H →
      ((Itl K R).stop i H ∧ Qd H) ∨ ((Itl K R).go i H ∧ ∃ Nx : Hp → Prop, (∀ H', Nx H' → ∃ m', m' < m ∧ W (i + 1) m' H') ∧ ∀ x H', (Itl K R).yld i H x H' → gName i0 x (wipe σ [i0]) H' fun σ2 H2 => wipe σ2 [i0] = wipe σ [i0] ∧ tYes σ2 H2 fun b H3 =>
        if b = true then tCall (spMade C) [] E0 (tCons (tVar i0) tNil) σ2 H3 fun y H4 => ∃ acc, H4 D = some (.lst acc) ∧ acc.length < sizeLine ∧ Nx (upd H4 D (.lst (acc ++ [y]))) else Nx H3) := by
  obtain ⟨ps, ha, lp, hp⟩ := id hR
  refine lc_it (walk_list (K := K) (a := R) (xs := ps.map V.ref)) (fun i H' => ∃ ms : List Addr, H' D = some (.lst (ms.map V.ref)) ∧ AsksAt C H' ms (rs.take i) ∧ Same H3 H') ⟨[], upd_same, ⟨rfl, fun i p r e => (by cases e)⟩, same_new hD⟩ (fun i H' _ ⟨_, _, _, s⟩ => SqL.of (s _ _ ha)) ?_ ?_
  · rintro i x H4 H5 hi ⟨ms, hd, ⟨ml, am⟩, s4⟩ ⟨rfl, hx⟩
    have hi2 : i < ps.length := by rw [List.length_map] at hi; exact hi
    have hi3 : i < rs.length := by rw [← lp]; exact hi2
    have ex : x = .ref ps[i] := by
      rw [List.getElem?_map, List.getElem?_eq_getElem hi2] at hx
      exact (Option.some.inj hx).symm
    subst ex
    have er : rs[i]? = some rs[i] := List.getElem?_eq_getElem hi3
    have row := s4 _ _ (hp i ps[i] rs[i] (List.getElem?_eq_getElem hi2) er)
    have tk : rs.take (i + 1) = rs.take i ++ [rs[i]] := by
      rw [List.take_add_one, er]
      rfl
    rw [tk]
    have mr : rs[i] ∈ rs := List.getElem_mem hi3
    have okr := ok _ mr
    have hsr := hs _ mr
    have mli : ms.length = i := by rw [ml, List.length_take]; omega
    generalize rs[i] = r at row okr hsr ⊢
    refine ⟨h2 _, yes_go ⟨_, h1 _, ps[i], r, rfl, row, okr, hsr, fun x H6 hx s6 ask => ⟨_, s6 _ _ hd, ?_, ms ++ [x], by rw [upd_same, List.map_append]; rfl, ⟨?_, ?_⟩, fun b o e => by rw [upd_ne (ne_of_none e hD)]; exact s6 _ _ (s4 _ _ e)⟩⟩⟩
    · rw [List.length_map]
      exact Nat.lt_of_le_of_lt (show _ ≤ 1000 by omega) (by decide)
    · rw [List.length_append, List.length_append, ml]
      rfl
    · intro j q r' e1 e2
      have hd6 := s6 _ _ hd
      have keep : ∀ {q r'}, AskAt C _ q r' → AskAt C (upd _ D (.lst (ms.map V.ref ++ [V.ref x]))) q r' := fun {q r'} z => by
        obtain ⟨dx, h⟩ := id z
        exact ⟨dx, by rw [upd_ne (z.ne hd6)]; exact h⟩
      by_cases hj : j < ms.length
      · rw [List.getElem?_append_left hj] at e1
        rw [List.getElem?_append_left (by omega)] at e2
        exact keep ((am j q r' e1 e2).mono s6)
      · rw [List.getElem?_append_right (by omega)] at e1 e2
        have hj0 : j - ms.length = 0 := by
          cases hz : j - ms.length with
          | zero => rfl
          | succ m => rw [hz] at e1; cases e1
        rw [hj0] at e1
        rw [show j - (rs.take i).length = 0 by omega] at e2
        cases e1
        cases e2
        exact keep ask
  · rintro H4 ⟨ms, hd, am, s4⟩
    rw [List.length_map, lp, List.take_of_length_le (Nat.le_refl _)] at am
    exact done ms H4 am hd s4
theorem ne_self {x : V} : V.bl (!decide (x = x)) = V.bl false := by rw [decide_eq_true rfl]; rfl
theorem ask_mono {H H' : Hp} {ms : List Addr} {rs : List Row} (s : Same H H') (h : AsksAt C H ms rs) : AsksAt C H' ms rs := ⟨h.1, fun i p r e1 e2 => (h.2 i p r e1 e2).mono s⟩
theorem call_reprK {X : Cx} (K : PySem.W.Frag) (hg : X.A.guards = some []) (hu : X.A.units + 64 < cLine) (hb : ModsD X.base) (h : X.K = K := by rfl) : CallR X (.builtin "repr") (rRepr K) := by
  subst h
  exact call_reprD hg hu hb
end
def rLenK (K : PySem.W.Frag) : List V → Hp → VK → Prop := fun xs H Q => ∃ x n, xs = [x] ∧ LenV K x H n ∧ Q (.int n) H
theorem call_lenK {X : Cx} (K : PySem.W.Frag) (h : X.K = K := by rfl) : CallR X (.builtin "len") (rLenK K) := by subst h; exact call_len
def rTupOf (K : PySem.W.Frag) : List V → Hp → VK → Prop := fun xs H Q => ∃ p ys, xs = [.ref p] ∧ ((SqL K H p ys ∧ ∀ l, H l = none → Q (.ref l) (upd H l (.tup ys))) ∨ (SqT K H p ys ∧ Q (.ref p) H))
theorem call_tupK {X : Cx} (K : PySem.W.Frag) (h : X.K = K := by rfl) : CallR X (.type "tuple") (rTupOf K) := by subst h; exact call_tuple_of
end K36
end

section
set_option Elab.async false
set_option linter.all false
set_option maxRecDepth 100000
set_option maxHeartbeats 4000000
/-! all pairs of asks -/
namespace K36
open PySem PySem.Spec PyProof.Rows L2 KZ
abbrev sPR : Stmt := top 42
/-- surely, as it lets out -/
structure SurelyF (P : Program) (w : World) (K : PySem.W.Frag) (mg : Str → Option Value) (base : Heap) (C cB cT cC : Addr) : Prop where
  ex : ∃ f fd, mg "surely" = some (.ref f) ∧ FnOk P w K mg base (L2.CX P w) 10 f fd ["asks", "one", "other"] (spSurely K C cB cT cC) ∧ PySem.W.keepIn K (.ref f) = true ∧ Binds K fd ["asks", "one", "other"] []
def spPR (T0 : List (Addr × Str)) : Sp := fun vs H Q _ => ∃ (a L : Addr) (rs : List Row), vs = [.ref a, .ref L] ∧ RowsAt H a rs ∧ OrdersAt H L (ordersOf rs) ∧ rs.length ≤ 7 ∧ (∀ r ∈ rs, r.Ok) ∧ firstBad rs = none ∧ (∀ r ∈ rs, r.c.length ≤ 1000) ∧ LamX.Tabs T0 H ∧ ∀ H', LamX.ExtN H H' → LamX.Tabs T0 H' → Q (.bl true) H'
def tupN (o : List Nat) : PyData := .tuple ((o.map fun (i : Nat) => (i : Int)).map PyData.int)
def ordsD (os : List (List Nat)) : PyData := .list (os.map tupN)
theorem ords_all {K : PySem.W.Frag} {H : Hp} : ∀ {ts : List Addr} {os : List (List Nat)}, Paired (fun t o => TupD H t (nats o)) ts os → DpAll K H (ts.map V.ref) (os.map tupN)
  | _, _, .nil => .nil
  | _, _, .cons (a := t) (b := o) h r => .cons (.tup (xs := (o.map fun (i : Nat) => (i : Int)).map V.int) (by
      have := h.sq (K := K)
      rw [nats_ints] at this
      exact this) (dp_ints _)) (ords_all r)
theorem ords_dp {K : PySem.W.Frag} {H : Hp} {L : Addr} {ts : List Addr} {os : List (List Nat)} (hl : H L = some (.lst (ts.map V.ref))) (h : Paired (fun t o => TupD H t (nats o)) ts os) : Dp K H (.ref L) (ordsD os) := .lst (SqL.of hl) (ords_all h)
theorem ords_can : ∀ os : List (List Nat), PyData.canLayAll0 (os.map tupN) = true ∧ PyData.depthAll (os.map tupN) ≤ 1
  | [] => ⟨rfl, Nat.zero_le _⟩
  | o :: os => by
    obtain ⟨a, b⟩ := ords_can os
    refine ⟨?_, ?_⟩
    · show (PyData.canLayAll0 ((o.map fun (i : Nat) => (i : Int)).map PyData.int) && PyData.canLayAll0 (os.map tupN)) = true
      rw [can_ints, a]
      rfl
    · show max (PyData.depthAll ((o.map fun (i : Nat) => (i : Int)).map PyData.int) + 1) (PyData.depthAll (os.map tupN)) ≤ 1
      rw [depth_ints]
      omega
theorem ords_shaped (os : List (List Nat)) : SeqAt.shaped (ordsD os) = true := by
  obtain ⟨a, b⟩ := ords_can os
  refine shaped_of a ?_
  show PyData.depthAll (os.map tupN) + 1 ≤ 64
  omega
theorem eqv_ords (os : List (List Nat)) : PyData.eqv (ordsD os) (.list []) = os.isEmpty := by cases os <;> rfl
def clashD : PyData := .tuple [.str "clash", .str "order"]
theorem clash_tell : Tell clashD := by unfold Tell; decide +kernel
theorem bool_tell (b : Bool) : Tell (.list [.bool b]) := by cases b <;> (unfold Tell; decide +kernel)
theorem if_due {c : TT} {s1 rest : TS} {D : Ends} {σ : L2.St} {H : Hp} (good : L2.St → Hp → Prop) (h : ∀ Dn : L2.St → Hp → Prop, (∀ σ' H', good σ' H' → Dn σ' H') → tIfS c s1 tNext { D with nx := Dn } σ H) (go : ∀ σ' H', good σ' H' → rest D σ' H') : tSeq (tIfS c s1 tNext) rest D σ H := h _ go
def laterB (os : List (List Nat)) (i j : Nat) : List (List Nat) := os.filter fun o => decide (o.idxOf j < o.idxOf i)
def dueD (os : List (List Nat)) (i j : Nat) : PyData := if os.isEmpty = true then clashD else .list [.bool (!decide (i = j) && (laterB os i j).isEmpty)]
theorem due_tell (os : List (List Nat)) (i j : Nat) : Tell (dueD os i j) := by
  unfold dueD
  split
  · exact clash_tell
  · exact bool_tell _
theorem dec_nat (i j : Nat) : decide (V.int (i : Int) = V.int (j : Int)) = decide (i = j) := by
  by_cases e : i = j
  · rw [decide_eq_true e, decide_eq_true (by rw [e])]
  · rw [decide_eq_false e, decide_eq_false (show ¬ V.int (i : Int) = V.int (j : Int) from fun z => e (Int.ofNat.inj (V.int.inj z)))]
theorem due_bool {os : List (List Nat)} {i j : Nat} {b : Bool} (h : b = true ↔ (i ≠ j ∧ ∀ o ∈ os, o.idxOf i < o.idxOf j)) (m : ∀ o ∈ os, i ∈ o) : b = (!decide (i = j) && (laterB os i j).isEmpty) := by
  rw [Bool.eq_iff_iff, h, Bool.and_eq_true, Bool.not_eq_true', decide_eq_false_iff_not]
  constructor
  · rintro ⟨ne, a⟩
    refine ⟨ne, List.isEmpty_iff.mpr (List.filter_eq_nil_iff.mpr fun o mo c => ?_)⟩
    have := a o mo
    have := of_decide_eq_true c
    omega
  · rintro ⟨ne, e⟩
    refine ⟨ne, fun o mo => ?_⟩
    have c := List.filter_eq_nil_iff.mp (List.isEmpty_iff.mp e) o mo
    have c : ¬ o.idxOf j < o.idxOf i := fun z => c (decide_eq_true z)
    have ne2 : o.idxOf i ≠ o.idxOf j := fun z => by
      have h1 := List.idxOf_lt_length_of_mem (m o mo)
      have a := List.getElem_idxOf h1
      have h2 : o.idxOf j < o.length := by omega
      have b := List.getElem_idxOf h2
      refine ne (a.symm.trans ?_)
      rw [← b]
      congr 1
    omega
theorem idx_ask {K : PySem.W.Frag} {H : Hp} {t : Addr} {o : List Nat} {i : Nat} {Q : VK} (h : TupD H t (nats o)) (mi : i ∈ o) (q : Q (.int (o.idxOf i : Nat)) H) : rTIx K (.ref t) [.int (i : Nat)] H Q := by
  have ixl := List.idxOf_lt_length_of_mem mi
  have gi : o[o.idxOf i]? = some i := by rw [List.getElem?_eq_getElem ixl, List.getElem_idxOf]
  refine ⟨t, nats o, .int i, o.idxOf i, .int i, rfl, rfl, h.sq, rfl, nats_flat _, by unfold nats; rw [List.getElem?_map, gi]; rfl, by show (i : Int) == (i : Int); simp, fun k z' hk hz => ?_, q⟩
  unfold nats at hz
  rw [List.getElem?_map] at hz
  obtain ⟨y, hy, rfl⟩ := Option.map_eq_some_iff.mp hz
  show ((y : Int) == (i : Int)) = false
  have ne : y ≠ i := fun e => by
    subst e
    have := List.not_of_lt_findIdx (p := fun x => x == y) (xs := o) (i := k) hk
    rw [(List.getElem?_eq_some_iff.mp hy).2] at this
    simp at this
  simp
  omega
section
variable {P : Program} {w : World} {K : PySem.W.Frag} {mg : Str → Option Value} {base : Heap} {C cO cB cT cC : Addr}
theorem scPR : FnScope ["rows", "orders", "made", "mine", "row", "one", "other", "due", "order", "heard"] ["rows", "orders"] (defScope sPR) := ⟨rfl, rfl, rfl, by decide +kernel, rfl, by decide +kernel, by decide +kernel⟩
theorem ok_pr (hmd : ModsD base) {f cc Pt : Addr} {fd : FuncData} {T0 : List (Addr × Str)} (F : Fun K "_law_pairs_right" "_law_pairs_right" sPR f fd) (hcode : fd.code = .ref cc) (LA : LamAt T0 base mg cc Pt ("_law_pairs_right" ++ ".<locals>.")) (T : B1 mg) (A : AskC K mg C)
    (made : Cal P w K mg base "_law_made" 10 ["row"] (spMade C)) (parts : Cal P w K mg base "_law_parts" 1 ["rows"] spLParts) (SF : SurelyF P w K mg base C cB cT cC) (HF : HeardF K mg cO cB cT cC) : FnG P w K mg base CX0 13 f fd ["rows", "orders"] (spPR T0) := by
  obtain ⟨fM, dM, gM, GM, kM, bM⟩ := made.ex
  obtain ⟨fP, dP, gP, GP, kP, bP⟩ := parts.ex
  obtain ⟨fSo, dSo, gSo, GSo, kSo, bSo⟩ := SF.ex
  refine okGc F hcode scPR (fun vs H Q E h => ?_) (fun A' outer s0 H vs Q E hgd hr h => ?_)
  · obtain ⟨a, L, rs, rfl, _⟩ := h
    rfl
  · obtain ⟨a, L, rs, rfl, hh, ho, hl, ok, nb, hs, tabs, q⟩ := h
    have hr12 : Room 12 _ := hr
    have hr10 : Room 10 _ := hr.mono (by decide)
    have hr1 : Room 1 _ := hr.mono (by decide)
    refine ⟨_, (pss_cons (ps_asg (pe_tup (pa_cons (pe_lc (own := [("row", 4)]) (g := gName 4) (tt := tYes) (by rfl) scPR.nd (pi_list (pv 0)) (blkOk_by (own := [("row", 4)]) (N := ["rows", "orders", "made", "mine", "row", "one", "other", "due", "order", "heard"]) (sc := defScope sPR) (by decide +kernel)) (fun _ _ _ _ _ => pg_name (i := 4) scPR.nd rfl (Or.inl rfl)) (fun _ _ _ _ _ => pts_nil) (fun _ _ _ _ _ => pe_call GM hr10 (by rfl) gM kM bM .nil pass0 (pa_cons (pv 4) pa_nil))) (pa_cons (pe_call GP hr1 (by rfl) gP kP bP .nil pass0 (pa_cons (pv 0) pa_nil)) pa_nil))) (pg_tup rfl (pgs_cons (pg_name (i := 2) scPR.nd rfl (Or.inr rfl)) (pgs_cons (pg_name (i := 3) scPR.nd rfl (Or.inl rfl)) pgs_nil))))
(pss_cons (ps_for PassesOwn.never rfl (pi_list (pv 3)) (pg_name (i := 5) scPR.nd rfl (Or.inr rfl))
(pss_one (ps_for PassesOwn.never rfl (pi_list (pv 3)) (pg_name (i := 6) scPR.nd rfl (Or.inr rfl))
(pss_cons (ps_set (i := 7) scPR.nd rfl (Or.inl rfl) (pe_tup (pa_cons pe_str (pa_cons pe_str pa_nil))))
(pss_cons (ps_if (pt_cmpR (op_neD hr.units) (pv 1) (pe_lst pa_nil) (nomark _))
(pss_one (ps_set (i := 7) scPR.nd rfl (Or.inl rfl) (pe_lst (pa_cons (pe_and (pe_cmpR op_ne (pv 5) (pv 6) (nomark _)) (pe_one (pe_cmpR (op_eqD hr.units) (pe_lc (own := [("order", 8)]) (g := gName 8) (by rfl) scPR.nd (pi_list (pv 1)) (blkOk_by (own := [("order", 8)]) (N := ["rows", "orders", "made", "mine", "row", "one", "other", "due", "order", "heard"]) (sc := defScope sPR) (by decide +kernel)) (fun _ _ _ _ _ => pg_name (i := 8) scPR.nd rfl (Or.inl rfl)) (fun _ _ _ _ _ => pts_one (pt_cmpR op_gt (pe_bmD PySem.F.plainAttrs_tuple PySem.F.slot_tuple_index PySem.F.type_tuple_index (mt_tixK K) (pv 8) (pa_cons (pv 5) pa_nil)) (pe_bmD PySem.F.plainAttrs_tuple PySem.F.slot_tuple_index PySem.F.type_tuple_index (mt_tixK K) (pv 8) (pa_cons (pv 6) pa_nil)) (nomark _))) (fun _ _ _ _ _ => pv 8)) (pe_lst pa_nil) (nomark _)))) pa_nil))))
pss_nil)
(pss_cons (ps_set (i := 9) scPR.nd rfl (Or.inl rfl) (pe_heard (t := fun E_ => tCall (spSurely K C cB cT cC) [] E_ (tCons (tVar 2) (tCons (tVar 5) (tCons (tVar 6) tNil)))) HF LA T hr12 (by rfl) rfl (LamX.lamS_by (sc := defScope sPR) (by decide +kernel)) rfl (fun _ _ _ _ _ => rfl) (fun A_ outer_ s_ H_ E_ f_ c_ hr_ => pe_call GSo (hr_.mono (by decide)) (by rfl) gSo kSo bSo .nil (passes_call (takes_of rfl rfl rfl rfl) fun _ _ _ _ z => z) (pa_cons (pv 2) (pa_cons (pv 5) (pa_cons (pv 6) pa_nil))))))
(pss_one (ps_if (pt_cmpR op_ne (pe_callB (call_reprK K hgd hr.units hmd) (by rfl) T.repr (by decide +kernel) (pa_cons (pv 9) pa_nil)) (pe_callB (call_reprK K hgd hr.units hmd) (by rfl) T.repr (by decide +kernel) (pa_cons (pv 7) pa_nil)) (nomark _))
(pss_one (ps_ret pe_bl))
pss_nil))))))))
(pss_one (ps_ret pe_bl)))), ?_⟩
    obtain ⟨ps, ha, lp, hp⟩ := id hh
    refine ⟨.ref a, rfl, a, rfl, ⟨_, SqL.of ha⟩, fun M hM0 => made_lc hh ok (by omega) hs hM0 (fun _ => rfl) (fun _ => rfl) fun ms H1 am hM s1 => ?_⟩
    refine ⟨.ref a, rfl, a, rs, rfl, hh.mono s1, by omega, ok, nb, fun MI H2 s2 hMI => ?_⟩
    refine ⟨by show 2 ≤ sizeLine; decide, fun t0 ht0 => ⟨t0, _, rfl, SqT.of upd_same, rfl, _, _, rfl, _, _, rfl, rfl, ?_⟩⟩
    have s3 := s2.trans (same_new (o := .tup [.ref M, .ref MI]) ht0)
    have sH := s1.trans s3
    have am3 := ask_mono s3 am
    have hM3 := s3 _ _ hM
    have hMI3 := same_new (o := .tup [.ref M, .ref MI]) ht0 _ _ hMI
    generalize upd H2 t0 (.tup [.ref M, .ref MI]) = HA at s3 sH am3 hM3 hMI3 ⊢
    have tabsA := tabs_same tabs sH
    obtain ⟨ts, hL, po⟩ := ho
    have hLA := sH _ _ hL
    have poA : Paired (fun t o => TupD HA t (nats o)) ts (ordersOf rs) := Paired.mapP po fun t o z => z.mono fun _ e => sH _ _ e
    have osome := orders_some ok nb
    have sall : Orderly rs → ∀ i j, i ∈ partsOf rs → j ∈ partsOf rs → (Sure rs i j ↔ i ≠ j ∧ ∀ o ∈ ordersOf rs, o.idxOf i < o.idxOf j) := fun od i j mi mj => sure_all ok nb od mi mj
    have omem : ∀ o ∈ ordersOf rs, ∀ i ∈ partsOf rs, i ∈ o := fun o m i mi => (OM.full_perm ((mem_orders ok nb).mp m)).mem_iff.mpr mi
    have olen : (ordersOf rs).length ≤ 7 ^ 7 := by
      unfold ordersOf
      rw [List.length_map]
      have h7 := parts_le rs
      exact Nat.le_trans (line_len rs (partsOf rs) _) (Nat.le_trans (Nat.pow_le_pow_left (show _ ≤ 7 by omega) _) (Nat.pow_le_pow_right (by decide) (by omega)))
    generalize ordersOf rs = os at poA osome sall omem olen
    clear po hL s1 s2 s3 hM hMI ht0 ha lp hp
    have ml : (partsOf rs).length ≤ 7 := Nat.le_trans (parts_le rs) hl
    have inv : ∀ i < (nats (partsOf rs)).length, ∃ k, (nats (partsOf rs))[i]? = some (.int (k : Nat)) ∧ k ∈ partsOf rs := fun i hi => by
      have hi2 : i < (partsOf rs).length := by unfold nats at hi; rw [List.length_map] at hi; exact hi
      exact ⟨(partsOf rs)[i], by unfold nats; rw [List.getElem?_map, List.getElem?_eq_getElem hi2]; rfl, List.getElem_mem hi2⟩
    refine ⟨.ref MI, rfl, MI, rfl, ⟨_, SqL.of hMI3⟩, ?_⟩
    refine for_it (walk_list (K := K) (a := MI) (xs := nats (partsOf rs))) (fun i σ H' => ∃ x5 x6 x7 x9, σ = [some (.ref a), some (.ref L), some (.ref M), some (.ref MI), none, x5, x6, x7, none, x9] ∧ LamX.ExtN HA H' ∧ LamX.Tabs T0 H') ⟨_, _, _, _, rfl, LamX.ExtN.refl _, tabsA⟩ (fun i σ H' _ ⟨_, _, _, _, _, e', _⟩ => SqL.of (e' _ _ hMI3 fun _ z => nomatch z)) ?_ ?_
    · rintro i x σ H1 H3 hi ⟨x5, x6, x7, x9, rfl, e1, t1⟩ ⟨rfl, hx⟩
      obtain ⟨one, hone, mone⟩ := inv i hi
      rw [hone] at hx
      cases hx
      refine nx_go ?_
      refine ⟨.ref MI, rfl, MI, rfl, ⟨_, SqL.of (e1 _ _ hMI3 fun _ z => nomatch z)⟩, ?_⟩
      refine for_it (walk_list (K := K) (a := MI) (xs := nats (partsOf rs))) (fun k σ H' => ∃ x6 x7 x9, σ = [some (.ref a), some (.ref L), some (.ref M), some (.ref MI), none, some (.int (one : Nat)), x6, x7, none, x9] ∧ LamX.ExtN HA H' ∧ LamX.Tabs T0 H') ⟨_, _, _, rfl, e1, t1⟩ (fun i σ H' _ ⟨_, _, _, _, e', _⟩ => SqL.of (e' _ _ hMI3 fun _ z => nomatch z)) ?_ ?_
      · rintro k x σ H4 H5 hk ⟨x6, x7, x9, rfl, e2, t2⟩ ⟨rfl, hx⟩
        obtain ⟨other, hoth, moth⟩ := inv k hk
        rw [hoth] at hx
        cases hx
        refine nx_go ?_
        refine ⟨by show 2 ≤ sizeLine; decide, fun DU hDU => nx_go ?_⟩
        have s6 := same_new (o := .tup [.str "clash", .str "order"]) hDU
        have fDU : upd H5 DU (.tup [.str "clash", .str "order"]) DU = some (.tup [.str "clash", .str "order"]) := upd_same
        generalize upd H5 DU (.tup [.str "clash", .str "order"]) = H6 at s6 fDU ⊢
        have e6 := e2.trans (LamX.ExtN.of s6)
        have t6 := tabs_same t2 s6
        dsimp only
        refine if_due (fun σ' H' => ∃ vd, σ' = [some (.ref a), some (.ref L), some (.ref M), some (.ref MI), none, some (.int (one : Nat)), some (.int (other : Nat)), some vd, none, x9] ∧ LamX.ExtN HA H' ∧ LamX.Tabs T0 H' ∧ ∀ H'', LamX.ExtN H' H'' → Dv K H'' vd (dueD os one other)) (fun Dn z => ?_) (fun σ' H' ⟨vd, eσ, e8, t8, dv8⟩ => ?_)
        · refine ifs_go ⟨.ref L, rfl, Nat.zero_le _, fun l hl0 => ?_⟩
          have s7 := same_new (o := .lst []) hl0
          have fl : upd H6 l (.lst []) l = some (.lst []) := upd_same
          have fDU7 := s7 _ _ fDU
          generalize upd H6 l (.lst []) = H7 at s7 fl fDU7 ⊢
          have e7 := e6.trans (LamX.ExtN.of s7)
          have t7 := tabs_same t6 s7
          have fL7 := e7 _ _ hLA fun _ z => nomatch z
          have po7 : Paired (fun t o => TupD H7 t (nats o)) ts os := Paired.mapP poA fun t o z => z.mono fun _ e => e7 _ _ e fun _ y => nomatch y
          refine ⟨_, _, ords_dp fL7 po7, Dp.lst (SqL.of fl) .nil, ords_shaped _, by decide +kernel, _, rfl, ?_⟩
          rw [eqv_ords]
          cases hos : os.isEmpty with
          | true =>
            refine iteF' (z _ _ ⟨_, rfl, e7, t7, fun H'' e' => ?_⟩)
            unfold dueD
            rw [if_pos hos]
            exact .tup (SqT.of (e' _ _ fDU7 fun _ y => nomatch y)) (.cons (.str _) (.cons (.str _) .nil))
          | false =>
            refine iteT' ⟨.int (one : Nat), rfl, .int (other : Nat), rfl, rfl, !decide (one = other), by rw [dec_nat], ?_⟩
            have fin : ∀ (b : Bool) H8, Same H7 H8 → b = (!decide (one = other) && (laterB os one other).isEmpty) → [V.bl b].length ≤ sizeLine ∧ ∀ p, H8 p = none → Dn (([some (V.ref a), some (V.ref L), some (V.ref M), some (V.ref MI), none, some (V.int (one : Nat)), some (V.int (other : Nat)), some (V.ref DU), none, x9]).set 7 (some (V.ref p))) (upd H8 p (.lst [V.bl b])) := fun b H8 s8 eb => by
              refine ⟨by show 1 ≤ sizeLine; decide, fun p hp => z _ _ ⟨.ref p, rfl, e7.trans (LamX.ExtN.of (s8.trans (same_new hp))), tabs_same t7 (s8.trans (same_new hp)), fun H'' e' => ?_⟩⟩
              unfold dueD
              rw [if_neg (by rw [hos]; exact fun y => nomatch y), ← eb]
              exact .lst (SqL.of (e' _ _ upd_same fun _ y => nomatch y)) (.cons (.bl _) .nil)
            by_cases e : one = other
            · rw [decide_eq_true e]
              exact iteF' (fin false H7 (Same.refl _) (by rw [decide_eq_true e]; rfl))
            · rw [decide_eq_false e]
              have tl : ts.length = os.length := Paired.length po7
              refine iteT' ⟨.ref L, rfl, L, rfl, ⟨_, SqL.of fL7⟩, fun R hR => ?_⟩
              refine lc_it (walk_list (K := K) (a := L) (xs := ts.map V.ref)) (fun k H' => ∃ us : List Addr, H' R = some (.lst (us.map V.ref)) ∧ Paired (fun t o => TupD H' t (nats o)) us (laterB (os.take k) one other) ∧ Same H7 H') ⟨[], upd_same, .nil, same_new hR⟩ (fun k H' _ ⟨_, _, _, s'⟩ => SqL.of (s' _ _ fL7)) ?_ ?_
              · rintro k x H8 H9 hk ⟨us, fR, pu, s8⟩ ⟨rfl, hx⟩
                have hk2 : k < ts.length := by rw [List.length_map] at hk; exact hk
                have hk3 : k < os.length := by omega
                have ex : x = .ref ts[k] := by
                  rw [List.getElem?_map, List.getElem?_eq_getElem hk2] at hx
                  exact (Option.some.inj hx).symm
                subst ex
                have tk0 := (paired_at po7 hk2 hk3).mono fun _ e => s8 _ _ e
                have mo := List.getElem_mem hk3
                have tk : laterB (os.take (k + 1)) one other = laterB (os.take k) one other ++ (if decide (os[k].idxOf other < os[k].idxOf one) = true then [os[k]] else []) := by
                  unfold laterB
                  rw [List.take_add_one, List.getElem?_eq_getElem hk3, List.filter_append]
                  congr 1
                  show List.filter _ [os[k]] = _
                  rw [List.filter_cons]
                  rfl
                have m1 := omem _ mo one mone
                have m2 := omem _ mo other moth
                have ul : us.length ≤ 7 ^ 7 := by
                  rw [Paired.length pu]
                  unfold laterB
                  refine Nat.le_trans (List.length_filter_le _ _) ?_
                  rw [List.length_take]
                  omega
                rw [tk]
                generalize os[k] = o at tk0 m1 m2 ⊢
                generalize ts[k] = t at tk0 ⊢
                refine ⟨rfl, .ref t, rfl, ⟨_, _, rfl, tk0⟩, .int (one : Nat), rfl, ?_⟩
                dsimp only [tNil]
                refine idx_ask tk0 m1 ⟨.ref t, rfl, ⟨_, _, rfl, tk0⟩, .int (other : Nat), rfl, ?_⟩
                dsimp only [tNil]
                refine idx_ask tk0 m2 ⟨_, _, rfl, rfl, decide (o.idxOf other < o.idxOf one), ?_, ?_⟩
                · show V.bl (decide (((o.idxOf other : Nat) : Int) < ((o.idxOf one : Nat) : Int))) = _
                  exact congrArg V.bl (decide_eq_decide.mpr Int.ofNat_lt)
                · cases c : decide (o.idxOf other < o.idxOf one) with
                  | false =>
                    refine iteF' ⟨us, fR, ?_, s8⟩
                    rw [if_neg (fun y => nomatch y), List.append_nil]
                    exact pu
                  | true =>
                    have keepT : ∀ q o x, H9 q = some (.frz o x) → upd H9 R (.lst (us.map V.ref ++ [.ref t])) q = some (.frz o x) := fun q o x e => by
                      rw [upd_ne (fun z => by rw [z, fR] at e; cases e)]
                      exact e
                    refine iteT' ⟨.ref t, rfl, _, fR, by rw [List.length_map]; exact Nat.lt_of_le_of_lt ul (by decide), us ++ [t], by rw [upd_same, List.map_append]; rfl, ?_, fun b u e => ?_⟩
                    · rw [if_pos rfl]
                      exact Paired.snoc (Paired.mapP pu fun _ _ z => z.mono fun _ e => keepT _ _ _ e) (tk0.mono fun _ e => keepT _ _ _ e)
                    · rw [upd_ne (ne_of_none e hR)]
                      exact s8 b u e
              · rintro H8 ⟨us, fR, pu, s8⟩
                rw [List.length_map, tl, List.take_of_length_le (Nat.le_refl _)] at pu
                refine ⟨Nat.zero_le _, fun l2 hl2 => ?_⟩
                have s9 := same_new (o := .lst []) hl2
                refine ⟨_, _, ords_dp (s9 _ _ fR) (Paired.mapP pu fun _ _ z => z.mono fun _ e => s9 _ _ e), Dp.lst (SqL.of upd_same) .nil, ords_shaped _, by decide +kernel, ?_⟩
                rw [eqv_ords]
                exact fin _ _ (s8.trans s9) (by rw [decide_eq_false e]; rfl)
        · subst eσ
          refine asg_of (fun v H' => LamX.ExtN HA H' ∧ LamX.Tabs T0 H' ∧ Dv K H' v (dueD os one other) ∧ Dv K H' vd (dueD os one other)) (fun Qz z => ⟨t8, fun H7 x7 T7 H8 Q' s8 k => ?_⟩) (fun v H9 ⟨e9, t9, dh, dd⟩ => ?_)
          · have eA := (e8.trans x7).trans (LamX.ExtN.of s8)
            have eV := x7.trans (LamX.ExtN.of s8)
            have hist : Hist K C H8 M rs := ⟨ms, .inl (SqL.of (eA _ _ hM3 fun _ y => nomatch y)), am3.1, fun i p r e1 e2 => by
              obtain ⟨dx, hx⟩ := am3.2 i p r e1 e2
              exact ⟨dx, eA _ _ hx fun _ y => nomatch y⟩⟩
            have part : ∀ {i : Nat}, i ∈ partsOf rs → isPartD rs (.int (i : Int)) = true := fun {i} mi => List.any_eq_true.mpr ⟨i, mi, decide_eq_true rfl⟩
            refine ⟨.ref M, rfl, .int (one : Nat), rfl, .int (other : Nat), rfl, .ref M, .int (one : Nat), .int (other : Nat), .int (one : Nat), .int (other : Nat), rfl, .int _, .int _, .inr (.inr ⟨M, rs, rfl, hist, by omega, ok, fun h => absurd h (by omega), fun _ i e => (by rw [nb] at e; cases e), fun _ _ => ⟨fun c => absurd (part mone) (by rw [c]; exact fun y => nomatch y), fun _ c => absurd (part moth) (by rw [c]; exact fun y => nomatch y), fun i j e1 e2 mi mj => ?_⟩⟩)⟩
            obtain rfl : i = one := (Int.ofNat.inj (PyData.int.inj e1)).symm
            obtain rfl : j = other := (Int.ofNat.inj (PyData.int.inj e2)).symm
            refine ⟨fun no d H' s' hd => ⟨d, _, rfl, hd, .inr (.inr ⟨rfl, .str "order", rfl, fun t H2 s2 ht => z _ _ ⟨eA.trans (LamX.ExtN.of (s'.trans s2)), tabs_same T7 (s8.trans (s'.trans s2)), ?_, dv8 _ (eV.trans (LamX.ExtN.of (s'.trans s2)))⟩⟩)⟩, fun od b H' s' hb => k _ _ fun t H2 s2 ht => z _ _ ⟨eA.trans (LamX.ExtN.of (s'.trans s2)), tabs_same T7 (s8.trans (s'.trans s2)), ?_, dv8 _ (eV.trans (LamX.ExtN.of (s'.trans s2)))⟩⟩
            · have oe : os = [] := by
                cases os with
                | nil => rfl
                | cons o os => exact absurd (osome.mp fun y => nomatch y) no
              unfold dueD
              rw [if_pos (by rw [oe]; rfl)]
              exact .tup (SqT.of ht) (.cons (.str _) (.cons (.str _) .nil))
            · have on := osome.mpr od
              unfold dueD
              rw [if_neg (by rw [List.isEmpty_iff]; exact on), ← due_bool (hb.trans (sall od _ _ mi mj)) fun o mo => omem o mo _ mi]
              exact .lst (SqL.of ht) (.cons (.bl _) .nil)
          · obtain ⟨c1, c2, c3⟩ := due_tell os one other
            refine nx_go ⟨_, rfl, v, _, rfl, dh, c1, c2, c3, vd, rfl, vd, _, rfl, dd, c1, c2, c3, rfl, false, ne_self, iteF' ?_⟩
            exact ⟨_, _, _, rfl, e9, t9⟩
      · rintro σ H4 ⟨x6, x7, x9, rfl, e2, t2⟩
        exact ⟨_, _, _, _, rfl, e2, t2⟩
    · rintro σ H1 ⟨x5, x6, x7, x9, rfl, e1, t1⟩
      exact q H1 ((LamX.ExtN.of sH).trans e1) t1
end
end K36
end

section
set_option Elab.async false
set_option linter.all false
set_option maxRecDepth 100000
set_option maxHeartbeats 4000000
/-! what a further get can tell -/
namespace K36
open PySem PySem.Spec PyProof.Rows L2 KZ
abbrev sFR : Stmt := top 43
/-- tellable, of a history -/
def spTellX (K : PySem.W.Frag) (C : Addr) : Sp := fun vs H Q _ => ∃ a rs, vs = [.ref a] ∧ Hist K C H a rs ∧ rs.length ≤ 1000 ∧ (∀ r ∈ rs, r.Ok) ∧ firstBad rs = none ∧
  (¬Orderly rs → ∀ p H', Same H H' → H' p = some (.tup []) → Q (.ref p) H') ∧
  (Orderly rs → ∀ (ns : List Int) p H', ns.Perm ((freeOf rs (zonesOf rs)).map (fun (n : Nat) => (n : Int)) ++ lastOf (zonesOf rs)) → ns.Pairwise (· ≤ ·) → Same H H' →
    H' p = some (.tup (if someB (zonesOf rs) = true then ns.map V.int else V.non :: ns.map V.int)) → Q (.ref p) H')
structure CalK (P : Program) (w : World) (K : PySem.W.Frag) (mg : Str → Option Value) (base : Heap) (x : Str) (n : Nat) (ps : List Str) (sp : Sp) : Prop where
  ex : ∃ f fd, mg x = some (.ref f) ∧ FnOk P w K mg base CX0 n f fd ps sp ∧ PySem.W.keepIn K (.ref f) = true ∧ Binds K fd ps [] ∧ KBinds K fd ps ps (fun us ws => us ++ ws.take 1) fun vs zs => vs ++ zs.take 1
def spFR : Sp := fun vs H Q _ => ∃ (a : Addr) (rs : List Row), vs = [.ref a] ∧ RowsAt H a rs ∧ rs.length ≤ 6 ∧ (∀ r ∈ rs, r.Ok) ∧ firstBad rs = none ∧ (∀ r ∈ rs, r.c.length ≤ 1000) ∧ ∀ H', Same H H' → Q (.bl true) H'
def endsOf (rs : List Row) : List Int := (rs.filterMap (·.e) ++ rs.map (·.b)) ++ [0]
theorem behind_of {rs : List Row} {m : Int} (ok : ∀ r ∈ rs, r.Ok) (mm : m ∈ endsOf rs) (mu : ∀ y ∈ endsOf rs, y ≤ m) : Behind rs (m + 1) := by
  unfold endsOf at mu
  refine ⟨?_, fun r mr => ?_, fun r mr e he => ?_⟩
  · have := mu 0 (by simp)
    omega
  · have := mu r.b (List.mem_append_left _ (List.mem_append_right _ (List.mem_map.mpr ⟨r, mr, rfl⟩)))
    omega
  · have := mu e (List.mem_append_left _ (List.mem_append_left _ (List.mem_filterMap.mpr ⟨r, mr, he⟩)))
    omega
def oDs (l : List (Option Int)) : PyData := .tuple (l.map oD)
theorem ods_dp {K : PySem.W.Frag} {H : Hp} : ∀ l : List (Option Int), DpAll K H (l.map oV) (l.map oD)
  | [] => .nil
  | o :: l => .cons (oD_dp o) (ods_dp l)
theorem ods_shaped (l : List (Option Int)) : SeqAt.shaped (oDs l) = true := by
  have h : ∀ l : List (Option Int), PyData.canLayAll0 (l.map oD) = true ∧ PyData.depthAll (l.map oD) = 0 := fun l => by
    induction l with
    | nil => exact ⟨rfl, rfl⟩
    | cons o l ih =>
      obtain ⟨a, b⟩ := ih
      refine ⟨?_, ?_⟩
      · show (PyData.canLay0 (oD o) && PyData.canLayAll0 (l.map oD)) = true
        rw [a]
        cases o <;> rfl
      · show max (PyData.depth (oD o)) (PyData.depthAll (l.map oD)) = 0
        rw [b]
        cases o <;> rfl
  obtain ⟨a, b⟩ := h l
  refine shaped_of a ?_
  show PyData.depthAll (l.map oD) + 1 ≤ 64
  omega
theorem eqv_self_o (o : Option Int) : PyData.eqv (oD o) (oD o) = true := by
  cases o with
  | none => rfl
  | some i => show ((i == i) : Bool) = true; simp
theorem eqv_ods (l : List (Option Int)) : PyData.eqv (oDs l) (oDs l) = true := by
  have h : ∀ l : List (Option Int), PyData.eqvAll (l.map oD) (l.map oD) = true := fun l => by
    induction l with
    | nil => rfl
    | cons o l ih =>
      show (PyData.eqv (oD o) (oD o) && PyData.eqvAll (l.map oD) (l.map oD)) = true
      rw [eqv_self_o, ih]
      rfl
  exact h l
theorem ods_tell {l : List (Option Int)} (hl : l.length ≤ 600) (h : ∀ o ∈ l, ∀ i, o = some i → SmI i) : Tell (oDs l) := by
  have h1 := Sm.tup (L := 14) (D := 0) (ds := l.map oD) (fun d m => by
    obtain ⟨o, mo, rfl⟩ := List.mem_map.mp m
    exact sm_opt (h o mo))
  rw [List.length_map] at h1
  exact h1.tell (by omega) (by omega)
theorem due_in {rs : List Row} {late : Int} {o : Option Int} (m : o ∈ dueOf rs late) {i : Int} (e : o = some i) : ∃ k : Nat, i = k ∧ k < rs.length := by
  unfold dueOf at m
  have m := (List.mem_filter.mp m).1
  rcases List.mem_cons.mp m with rfl | m
  · cases e
  · obtain ⟨k, mk, rfl⟩ := List.mem_map.mp m
    cases e
    exact ⟨k, rfl, List.mem_range.mp (List.mem_filter.mp mk).1⟩
section
variable {P : Program} {w : World} {K : PySem.W.Frag} {mg : Str → Option Value} {base : Heap} {C : Addr}
theorem scFR : FnScope ["rows", "ends", "row", "late", "end", "due", "told", "at", "made"] ["rows"] (defScope sFR) := ⟨rfl, rfl, rfl, by decide +kernel, rfl, by decide +kernel, by decide +kernel⟩
theorem ok_fr (hmd : ModsD base) {f : Addr} {fd : FuncData} (F : Fun K "_law_further_right" "_law_further_right" sFR f fd) (T : B1 mg) 
    (made : Cal P w K mg base "_law_made" 10 ["row"] (spMade C)) (lo : Cal P w K mg base "_law_orders" 2 ["rows"] spLOrders) (tell : CalK P w K mg base "tellable" 9 ["asks"] (spTellX K C)) : FnG P w K mg base CX0 11 f fd ["rows"] spFR := by
  obtain ⟨fM, dM, gM, GM, kM, bM⟩ := made.ex
  obtain ⟨fL, dL, gLO, GLO, kLO, bLO⟩ := lo.ex
  obtain ⟨fT, dT, gT, GT, kT, bT, kbT⟩ := tell.ex
  refine okG F scFR (fun vs H Q E h => ?_) (fun cdv A' outer s0 H vs Q E hgd hr h => ?_)
  · obtain ⟨a, rs, rfl, _⟩ := h
    rfl
  · obtain ⟨a, rs, rfl, hh, hl, ok, nb, hs, q⟩ := h
    have hr10 : Room 10 _ := hr
    have hr9 : Room 9 _ := hr.mono (by decide)
    have hr2 : Room 2 _ := hr.mono (by decide)
    refine ⟨_, (pss_cons (ps_set (i := 1) scFR.nd rfl (Or.inl rfl) (pe_op op_cat (pe_op op_cat (pe_lc (own := [("row", 2)]) (g := gName 2) (by rfl) scFR.nd (pi_list (pv 0)) (blkOk_by (own := [("row", 2)]) (N := ["rows", "ends", "row", "late", "end", "due", "told", "at", "made"]) (sc := defScope sFR) (by decide +kernel)) (fun _ _ _ _ _ => pg_name (i := 2) scFR.nd rfl (Or.inl rfl)) (fun _ _ _ _ _ => pts_one (pt_cmpR op_notN (pe_ix (ix_seqK K) (pv 2) pe_int (fun _ _ => rfl)) pe_non (nomark _))) (fun _ _ _ _ _ => pe_ix (ix_seqK K) (pv 2) pe_int (fun _ _ => rfl))) (pe_lc (own := [("row", 2)]) (g := gName 2) (tt := tYes) (by rfl) scFR.nd (pi_list (pv 0)) (blkOk_by (own := [("row", 2)]) (N := ["rows", "ends", "row", "late", "end", "due", "told", "at", "made"]) (sc := defScope sFR) (by decide +kernel)) (fun _ _ _ _ _ => pg_name (i := 2) scFR.nd rfl (Or.inl rfl)) (fun _ _ _ _ _ => pts_nil) (fun _ _ _ _ _ => pe_ix (ix_seqK K) (pv 2) pe_int (fun _ _ => rfl)))) (pe_lst (pa_cons pe_int pa_nil))))
(pss_cons (ps_set (i := 3) scFR.nd rfl (Or.inl rfl) (pe_op op_add (pe_callB (cr_max rfl) (by rfl) T.max (by decide +kernel) (pa_cons (pe_lc (own := [("end", 4)]) (g := gName 4) (tt := tYes) (by rfl) scFR.nd (pi_list (pv 1)) (blkOk_by (own := [("end", 4)]) (N := ["rows", "ends", "row", "late", "end", "due", "told", "at", "made"]) (sc := defScope sFR) (by decide +kernel)) (fun _ _ _ _ _ => pg_name (i := 4) scFR.nd rfl (Or.inl rfl)) (fun _ _ _ _ _ => pts_nil) (fun _ _ _ _ _ => pe_callTy call_int1 (by rfl) T.int (by decide +kernel) (pa_cons (pv 4) pa_nil))) pa_nil)) pe_int))
(pss_cons (ps_set (i := 5) scFR.nd rfl (Or.inl rfl) (pe_lst pa_nil))
(pss_cons (ps_for PassesOwn.never rfl (pi_list (pe_op op_cat (pe_lst (pa_cons pe_non pa_nil)) (pe_lc (own := [("at", 7), ("row", 2)]) (by rfl) scFR.nd (pi_enum (by rfl) T.enum (pa_cons (pv 0) pa_nil)) (blkOk_by (own := [("at", 7), ("row", 2)]) (N := ["rows", "ends", "row", "late", "end", "due", "told", "at", "made"]) (sc := defScope sFR) (by decide +kernel)) (fun _ _ _ _ _ => pg_tupK (n := 2) K rfl ((pgs_cons (pg_name (i := 7) scFR.nd rfl (Or.inl rfl)) (pgs_cons (pg_name (i := 2) scFR.nd rfl (Or.inl rfl)) pgs_nil)))) (fun _ _ _ _ _ => pts_one (pt_cmpR op_eq (pe_ix (ix_seqK K) (pv 2) pe_int (fun _ _ => rfl)) pe_str (nomark _))) (fun _ _ _ _ _ => pv 7)))) (pg_name (i := 6) scFR.nd rfl (Or.inl rfl))
(pss_one (ps_if (pt_cmpR (op_neD hr.units) (pe_call GLO hr2 (by rfl) gLO kLO bLO .nil pass0 (pa_cons (pe_op op_cat (pv 0) (pe_lst (pa_cons (pe_tup (pa_cons pe_str (pa_cons pe_str (pa_cons (pv 3) (pa_cons (pe_op op_add (pv 3) pe_int) (pa_cons (pv 6) pa_nil)))))) pa_nil))) pa_nil)) (pe_lst pa_nil) (nomark _))
(pss_one (ps_expr (pe_bm PySem.F.plainAttrs_list PySem.F.slot_list_append PySem.F.type_list_append mt_append (pv 5) (pa_cons (pv 6) pa_nil))))
pss_nil)))
(pss_cons (ps_setLc (i := 8) (own := [("row", 2)]) (g := gName 2) (tt := tYes) (by rfl) scFR.nd rfl rfl (sw_true rfl rfl rfl (by decide +kernel)) (pi_list (pv 0)) (blkOk_by (own := [("row", 2)]) (N := ["rows", "ends", "row", "late", "end", "due", "told", "at", "made"]) (sc := defScope sFR) (by decide +kernel)) (fun _ _ _ _ _ => pg_name (i := 2) scFR.nd rfl (Or.inl rfl)) (fun _ _ _ _ _ => pts_nil) (fun _ _ _ _ _ => pe_call GM hr10 (by rfl) gM kM bM .nil pass0 (pa_cons (pv 2) pa_nil)))
(pss_one (ps_ret (pe_and (pe_cmpR op_eq (pe_callB (call_reprK K hgd hr.units hmd) (by rfl) T.repr (by decide +kernel) (pa_cons (pe_call GT hr9 (by rfl) gT kT bT .nil pass0 (pa_cons (pv 8) pa_nil)) pa_nil)) (pe_callB (call_reprK K hgd hr.units hmd) (by rfl) T.repr (by decide +kernel) (pa_cons (pe_callTy call_tuple_of (by rfl) T.tuple (by decide +kernel) (pa_cons (pv 5) pa_nil)) pa_nil)) (nomark _)) (pe_one (pe_cmpR (op_eqD hr.units) (pe_callK0 GT hr9 (by rfl) gT kT kbT pass0 (pk_cons (pe_callTy call_tuple_of (by rfl) T.tuple (by decide +kernel) (pa_cons (pv 8) pa_nil)) pk_nil)) (pe_callTy call_tuple_of (by rfl) T.tuple (by decide +kernel) (pa_cons (pv 5) pa_nil)) (nomark _))))))))))), ?_⟩
    obtain ⟨ps, ha, lp, hp⟩ := id hh
    have psl : (ps.map V.ref).length = rs.length := by rw [List.length_map, lp]
    have item : ∀ {i : Nat} {x : V}, (ps.map V.ref)[i]? = some x → i < rs.length → ∃ p, x = .ref p ∧ ∀ r, rs[i]? = some r → RowAt H p r := fun {i x} hx hi => by
      rw [List.getElem?_map, List.getElem?_eq_getElem (show i < ps.length by omega)] at hx
      exact ⟨ps[i]'(by omega), (Option.some.inj hx).symm, fun r er => hp i _ r (List.getElem?_eq_getElem _) er⟩
    refine ⟨.ref a, rfl, a, rfl, ⟨_, SqL.of ha⟩, fun D1 hD1 => ?_⟩
    refine lc_it (walk_list (K := K) (a := a) (xs := ps.map V.ref)) (fun i H' => H' = upd H D1 (.lst (((rs.take i).filterMap (·.e)).map V.int))) rfl (fun i H' _ e => by rw [e]; exact SqL.of (same_new hD1 _ _ ha)) ?_ ?_
    · rintro i x H1 H2 hi rfl ⟨rfl, hx⟩
      rw [psl] at hi
      obtain ⟨p, rfl, row⟩ := item hx hi
      have er : rs[i]? = some rs[i] := List.getElem?_eq_getElem hi
      have ra := row _ er
      have tk : (rs.take (i + 1)).filterMap (·.e) = (rs.take i).filterMap (·.e) ++ (match rs[i].e with | some e => [e] | none => []) := by
        rw [List.take_add_one, er, List.filterMap_append]
        congr 1
        show List.filterMap _ [rs[i]] = _
        rw [List.filterMap_cons]
        cases rs[i].e <;> rfl
      rw [tk]
      have ln : (((rs.take i).filterMap (·.e)).map V.int).length < sizeLine := by
        rw [List.length_map]
        refine Nat.lt_of_le_of_lt (Nat.le_trans (List.length_filterMap_le _ _) (show _ ≤ 6 from ?_)) (by decide)
        rw [List.length_take]
        omega
      have ra2 := same_new (o := .lst (((rs.take i).filterMap (·.e)).map V.int)) hD1 _ _ ra
      generalize (rs.take i).filterMap (·.e) = es at ln ra2 ⊢
      generalize rs[i] = r at ra2 ⊢
      have at3 : atI (rowV r) 3 = some (oV r.e) := at_nat (i := 3) rfl
      refine ⟨rfl, .ref p, rfl, Sq.ix (.inr (SqT.of ra2)) at3 ⟨rfl, r.e.isSome, (by cases r.e <;> rfl), ?_⟩⟩
      cases he : r.e with
      | none =>
        refine iteF' ?_
        show _ = _
        rw [List.append_nil]
      | some e =>
        refine iteT' ⟨.ref p, rfl, Sq.ix (.inr (SqT.of ra2)) at3 ⟨_, upd_same, ln, ?_⟩⟩
        rw [upd_upd, he, List.map_append]
        rfl
    rintro H1 rfl
    rw [psl, List.take_of_length_le (Nat.le_refl _)]
    have s1 := same_new (o := .lst ((rs.filterMap (·.e)).map V.int)) hD1
    have f1 : upd H D1 (.lst ((rs.filterMap (·.e)).map V.int)) D1 = some (.lst ((rs.filterMap (·.e)).map V.int)) := upd_same
    generalize upd H D1 (.lst ((rs.filterMap (·.e)).map V.int)) = H1 at s1 f1 ⊢
    refine ⟨.ref a, rfl, a, rfl, ⟨_, SqL.of (s1 _ _ ha)⟩, fun D2 hD2 => ?_⟩
    refine lc_it (walk_list (K := K) (a := a) (xs := ps.map V.ref)) (fun i H' => H' = upd H1 D2 (.lst (((rs.take i).map (·.b)).map V.int))) rfl (fun i H' _ e => by rw [e]; exact SqL.of (same_new hD2 _ _ (s1 _ _ ha))) ?_ ?_
    · rintro i x H2 H3 hi rfl ⟨rfl, hx⟩
      rw [psl] at hi
      obtain ⟨p, rfl, row⟩ := item hx hi
      have er : rs[i]? = some rs[i] := List.getElem?_eq_getElem hi
      have ra := row _ er
      have tk : (rs.take (i + 1)).map (·.b) = (rs.take i).map (·.b) ++ [rs[i].b] := by
        rw [List.take_add_one, er, List.map_append]
        rfl
      rw [tk]
      have ln : (((rs.take i).map (·.b)).map V.int).length < sizeLine := by
        rw [List.length_map, List.length_map, List.length_take]
        exact Nat.lt_of_le_of_lt (show _ ≤ 6 by omega) (by decide)
      have ra2 := same_new (o := .lst (((rs.take i).map (·.b)).map V.int)) hD2 _ _ (s1 _ _ ra)
      generalize (rs.take i).map (·.b) = es at ln ra2 ⊢
      generalize rs[i] = r at ra2 ⊢
      refine ⟨rfl, yes_go ⟨.ref p, rfl, Sq.ix (.inr (SqT.of ra2)) (show atI (rowV r) 2 = some (.int r.b) from at_nat (i := 2) rfl) ⟨_, upd_same, ln, ?_⟩⟩⟩
      rw [upd_upd, List.map_append]
      rfl
    rintro H2 rfl
    rw [psl, List.take_of_length_le (Nat.le_refl _)]
    have s2 := same_new (o := .lst ((rs.map (·.b)).map V.int)) hD2
    have f2 : upd H1 D2 (.lst ((rs.map (·.b)).map V.int)) D2 = some (.lst ((rs.map (·.b)).map V.int)) := upd_same
    have f1 := s2 _ _ f1
    generalize upd H1 D2 (.lst ((rs.map (·.b)).map V.int)) = H2 at s2 f1 f2 ⊢
    have l1 : ((rs.filterMap (·.e)).map V.int).length ≤ 6 := by rw [List.length_map]; exact Nat.le_trans (List.length_filterMap_le _ _) hl
    have l2 : ((rs.map (·.b)).map V.int).length ≤ 6 := by rw [List.length_map, List.length_map]; exact hl
    refine ⟨D1, D2, _, _, rfl, rfl, f1, f2, Nat.le_trans (show _ ≤ 12 by omega) (by decide), fun D3 hD3 => ⟨(by show 1 ≤ sizeLine; decide), fun D4 hD4 => ?_⟩⟩
    have s4 := (s1.trans s2).trans ((same_new (o := .lst ((rs.filterMap (·.e)).map V.int ++ (rs.map (·.b)).map V.int)) hD3).trans (same_new (o := .lst [.int 0]) hD4))
    have f3 := same_new (o := .lst [.int 0]) hD4 _ _ (upd_same (H := H2) (a := D3) (o := .lst ((rs.filterMap (·.e)).map V.int ++ (rs.map (·.b)).map V.int)))
    refine ⟨D3, D4, _, _, rfl, rfl, f3, upd_same, Nat.le_trans (show _ ≤ 13 by rw [List.length_append, List.length_singleton]; omega) (by decide), fun D5 hD5 => ?_⟩
    have s5 := s4.trans (same_new (o := .lst (((rs.filterMap (·.e)).map V.int ++ (rs.map (·.b)).map V.int) ++ [.int 0])) hD5)
    have f5 : upd (upd (upd H2 D3 (.lst ((rs.filterMap (·.e)).map V.int ++ (rs.map (·.b)).map V.int))) D4 (.lst [.int 0])) D5 (.lst (((rs.filterMap (·.e)).map V.int ++ (rs.map (·.b)).map V.int) ++ [.int 0])) D5 = some (.lst ((endsOf rs).map V.int)) := by
      rw [upd_same]
      unfold endsOf
      rw [List.map_append, List.map_append]
      rfl
    generalize upd (upd (upd H2 D3 (.lst ((rs.filterMap (·.e)).map V.int ++ (rs.map (·.b)).map V.int))) D4 (.lst [.int 0])) D5 (.lst (((rs.filterMap (·.e)).map V.int ++ (rs.map (·.b)).map V.int) ++ [.int 0])) = H5 at s5 f5 ⊢
    clear s4 f3 l1 l2 f1 f2 s1 s2 hD1 hD2
    refine nx_go ?_
    have el : ((endsOf rs).map V.int).length ≤ 13 := by
      rw [List.length_map]
      unfold endsOf
      rw [List.length_append, List.length_append, List.length_map, List.length_singleton]
      have := List.length_filterMap_le (fun r : Row => r.e) rs
      omega
    refine ⟨.ref D5, rfl, D5, rfl, ⟨_, SqL.of f5⟩, fun D6 hD6 => ?_⟩
    refine lc_it (walk_list (K := K) (a := D5) (xs := (endsOf rs).map V.int)) (fun i H' => H' = upd H5 D6 (.lst (((endsOf rs).map V.int).take i))) rfl (fun i H' _ e => by rw [e]; exact SqL.of (same_new hD6 _ _ f5)) ?_ ?_
    · rintro i x H2 H3 hi rfl ⟨rfl, hx⟩
      have hi2 : i < (endsOf rs).length := by rw [List.length_map] at hi; exact hi
      have ex : x = .int (endsOf rs)[i] := by
        rw [List.getElem?_map, List.getElem?_eq_getElem hi2] at hx
        exact (Option.some.inj hx).symm
      rw [ex] at hx ⊢
      refine ⟨rfl, yes_go ⟨_, rfl, .inl ⟨_, rfl, _, upd_same, ?_, ?_⟩⟩⟩
      · rw [List.length_take]
        exact Nat.lt_of_le_of_lt (show _ ≤ 13 by omega) (by decide)
      · rw [upd_upd, List.take_add_one, hx]
        rfl
    rintro H6 rfl
    rw [List.take_of_length_le (Nat.le_refl _)]
    have s6 := s5.trans (same_new (o := .lst ((endsOf rs).map V.int)) hD6)
    have f6 : upd H5 D6 (.lst ((endsOf rs).map V.int)) D6 = some (.lst ((endsOf rs).map V.int)) := upd_same
    generalize upd H5 D6 (.lst ((endsOf rs).map V.int)) = H6 at s6 f6 ⊢
    refine ⟨D6, _, rfl, SqL.of f6, by unfold endsOf; rw [List.length_append]; exact Nat.succ_pos _, fun m mm mu => ⟨_, _, rfl, rfl, nx_go ?_⟩⟩
    have bh := behind_of ok mm mu
    clear s5 f5 f6 hD6 hD5 mm mu el
    dsimp only
    generalize m + 1 = late at bh ⊢
    -- the puts that may be told
    refine ⟨Nat.zero_le _, fun DU hDU => nx_go ?_⟩
    have fDU : upd H6 DU (.lst []) DU = some (.lst []) := upd_same
    have s7 := s6.trans (same_new (o := .lst []) hDU)
    have nH : ∀ {x : Addr}, upd H6 DU (.lst []) x = none → x ≠ DU := fun h e => by rw [e, upd_same] at h; cases h
    have hDH : H DU = none := by
      cases hz : H DU with
      | none => rfl
      | some o => rw [s6 _ _ hz] at hDU; cases hDU
    generalize upd H6 DU (.lst []) = H7 at s7 fDU nH ⊢
    refine ⟨(by show 1 ≤ sizeLine; decide), fun D7 hD7 => ?_⟩
    have sD7 := same_new (o := .lst [.non]) hD7
    have fD7 : upd H7 D7 (.lst [.non]) D7 = some (.lst [.non]) := upd_same
    have s8 := s7.trans sD7
    have fDU8 := sD7 _ _ fDU
    generalize upd H7 D7 (.lst [.non]) = H8 at s8 fD7 fDU8 ⊢
    refine ⟨.ref a, rfl, a, _, rfl, SqL.of (s8 _ _ ha), fun D8 hD8 => ?_⟩
    refine lc_it (walk_enum (K := K) (a := a) (xs := ps.map V.ref)) (fun i H' => H' D8 = some (.lst (nats ((List.range i).filter (isPutAt rs)))) ∧ Same H8 H') ⟨upd_same, same_new hD8⟩ (fun i H' _ e => SqL.of (e.2 _ _ (s8 _ _ ha))) ?_ ?_
    · rintro i x H2 H3 hi ⟨hg, s2⟩ ⟨T0, xa, xb, rfl, hT0, rfl, ea, eb⟩
      rw [psl] at hi
      cases ea
      obtain ⟨p, rfl, row⟩ := item eb hi
      have er : rs[i]? = some rs[i] := List.getElem?_eq_getElem hi
      have s3 := s2.trans (same_new (o := .tup [.int (i : Nat), .ref p]) hT0)
      have ra := (s8.trans s3) _ _ (row _ er)
      have hg3 : upd H2 T0 (.tup [.int (i : Nat), .ref p]) D8 = some (.lst (nats ((List.range i).filter (isPutAt rs)))) := by rw [upd_ne (ne_of_none hg hT0)]; exact hg
      have ip := put_at er
      have nx : nats ((List.range (i + 1)).filter (isPutAt rs)) = nats ((List.range i).filter (isPutAt rs)) ++ (if isPutAt rs i = true then [V.int (i : Int)] else []) := by
        rw [List.range_succ, List.filter_append]
        cases c : isPutAt rs i <;> simp [nats, c]
      have al : (nats ((List.range i).filter (isPutAt rs))).length < sizeLine := by
        unfold nats
        rw [List.length_map]
        refine Nat.lt_of_le_of_lt (Nat.le_trans (List.length_filter_le _ _) (show _ ≤ 6 from ?_)) (by decide)
        rw [List.length_range]
        omega
      rw [nx, ip]
      generalize rs[i] = r at ra
      generalize nats ((List.range i).filter (isPutAt rs)) = us at hg3 al ⊢
      have fT : upd H2 T0 (.tup [.int (i : Nat), .ref p]) T0 = some (.tup [.int (i : Nat), .ref p]) := upd_same
      generalize upd H2 T0 (.tup [.int (i : Nat), .ref p]) = H3 at s3 hg3 ra fT ⊢
      refine ⟨T0, [.int (i : Nat), .ref p], rfl, SqT.of fT, rfl, _, _, rfl, _, _, rfl, rfl, rfl, .ref p, rfl, Sq.ix (.inr (SqT.of ra)) (show atI (rowV r) 1 = some (.str (wd r.g)) from at_nat (i := 1) rfl) ⟨rfl, !r.g, (by cases r.g <;> decide +kernel), ?_⟩⟩
      cases (!r.g) with
      | false =>
        refine iteF' ⟨?_, s3⟩
        rw [if_neg (fun y => nomatch y), List.append_nil]
        exact hg3
      | true =>
        refine iteT' ⟨.int (i : Nat), rfl, _, hg3, al, by rw [upd_same]; rfl, fun b o e => ?_⟩
        rw [upd_ne (ne_of_none e hD8)]
        exact s3 b o e
    rintro H9 ⟨fD8, s9⟩
    rw [psl] at fD8
    have fD8 : H9 D8 = some (.lst (nats (putsOf rs))) := fD8
    have pl : (nats (putsOf rs)).length ≤ 6 := by
      unfold nats putsOf
      rw [List.length_map]
      refine Nat.le_trans (List.length_filter_le _ _) ?_
      rw [List.length_range]
      omega
    refine ⟨D7, D8, _, _, rfl, rfl, s9 _ _ fD7, fD8, Nat.le_trans (show 1 + (nats (putsOf rs)).length ≤ 7 by omega) (by decide), fun D9 hD9 => ?_⟩
    have eT : [V.non] ++ nats (putsOf rs) = ((none :: (putsOf rs).map fun (i : Nat) => some (i : Int)) : List (Option Int)).map oV := by
      unfold nats
      rw [List.map_cons, List.map_map]
      rfl
    rw [eT]
    have dueE : dueOf rs late = (none :: (putsOf rs).map fun (i : Nat) => some (i : Int)).filter fun told => !(ordersOf (withL rs late told)).isEmpty := rfl
    have toOk : ∀ t ∈ (none :: (putsOf rs).map fun (i : Nat) => some (i : Int)), ToldOk rs t := fun t mt => by
      rcases List.mem_cons.mp mt with rfl | mt
      · exact fun _ e => nomatch e
      · obtain ⟨k, mk, rfl⟩ := List.mem_map.mp mt
        exact put_ok (List.mem_filter.mp mk).2
    have tlen : (none :: (putsOf rs).map fun (i : Nat) => some (i : Int)).length ≤ 7 := by
      rw [List.length_cons, List.length_map]
      unfold nats at pl
      rw [List.length_map] at pl
      omega
    generalize (none :: (putsOf rs).map fun (i : Nat) => some (i : Int)) = tds at eT dueE toOk tlen ⊢
    have s10 := (s8.trans s9).trans (same_new (o := .lst (tds.map oV)) hD9)
    have fD9 : upd H9 D9 (.lst (tds.map oV)) D9 = some (.lst (tds.map oV)) := upd_same
    have fDU10 := same_new (o := .lst (tds.map oV)) hD9 _ _ (s9 _ _ fDU8)
    have nDU : D9 ≠ DU := (ne_of_none (s9 _ _ fDU8) hD9).symm
    generalize upd H9 D9 (.lst (tds.map oV)) = H10 at s10 fD9 fDU10 ⊢
    clear s9 fD8 fD7 s8 s7 s6 fDU8 fDU sD7 hD7 hD8 hD9
    refine ⟨D9, rfl, ⟨_, SqL.of fD9⟩, ?_⟩
    refine for_it (walk_list (K := K) (a := D9) (xs := tds.map oV)) (fun i σ H' => ∃ x6, σ = [some (.ref a), some (.ref D5), none, some (.int late), none, some (.ref DU), x6, none, none] ∧ H' DU = some (.lst (((tds.take i).filter fun told => !(ordersOf (withL rs late told)).isEmpty).map oV)) ∧ H' D9 = some (.lst (tds.map oV)) ∧ Same H H') ⟨_, rfl, fDU10, fD9, s10⟩ (fun i σ H' _ ⟨_, _, _, f, _⟩ => SqL.of f) ?_ ?_
    · rintro i x σ H1 H3 hi ⟨x6, rfl, gDU, gD9, sH⟩ ⟨rfl, hx⟩
      have hi2 : i < tds.length := by rw [List.length_map] at hi; exact hi
      have ex : x = oV tds[i] := by
        rw [List.getElem?_map, List.getElem?_eq_getElem hi2] at hx
        exact (Option.some.inj hx).symm
      subst ex
      have to := toOk _ (List.getElem_mem hi2)
      have tk : (tds.take (i + 1)).filter (fun told => !(ordersOf (withL rs late told)).isEmpty) = (tds.take i).filter (fun told => !(ordersOf (withL rs late told)).isEmpty) ++ (if (!(ordersOf (withL rs late tds[i])).isEmpty) = true then [tds[i]] else []) := by
        rw [List.take_add_one, List.getElem?_eq_getElem hi2, List.filter_append]
        congr 1
        show List.filter _ [tds[i]] = _
        rw [List.filter_cons]
        rfl
      have fl : ((tds.take i).filter fun told => !(ordersOf (withL rs late told)).isEmpty).length ≤ 7 := by
        refine Nat.le_trans (List.length_filter_le _ _) ?_
        rw [List.length_take]
        omega
      rw [tk]
      generalize (tds.take i).filter (fun told => !(ordersOf (withL rs late told)).isEmpty) = us at gDU fl ⊢
      generalize tds[i] = t at to ⊢
      refine nx_go ?_
      refine ifs_go ⟨.ref a, rfl, .int late, rfl, _, rfl, late, 1, rfl, rfl, oV t, rfl, by show 5 ≤ sizeLine; decide, fun T0 hT0 => ⟨by show 1 ≤ sizeLine; decide, fun L1 hL1 => ?_⟩⟩
      have sT := (same_new (o := .tup [.str "z", .str "get", .int late, .int (late + 1), oV t]) hT0).trans (same_new (o := .lst [.ref T0]) hL1)
      have fT := same_new (o := .lst [.ref T0]) hL1 _ _ (upd_same (H := H3) (a := T0) (o := .tup [.str "z", .str "get", .int late, .int (late + 1), oV t]))
      refine ⟨a, L1, _, _, rfl, rfl, sT _ _ (sH _ _ ha), upd_same, Nat.le_trans (show _ ≤ 7 by rw [psl, List.length_singleton]; omega) (by decide), fun L2 hL2 => ?_⟩
      have sL := sT.trans (same_new (o := .lst (ps.map V.ref ++ [.ref T0])) hL2)
      have fT2 := same_new (o := .lst (ps.map V.ref ++ [.ref T0])) hL2 _ _ fT
      have fL2 : upd (upd (upd H3 T0 (.tup [.str "z", .str "get", .int late, .int (late + 1), oV t])) L1 (.lst [.ref T0])) L2 (.lst (ps.map V.ref ++ [.ref T0])) L2 = some (.lst ((ps ++ [T0]).map V.ref)) := by rw [upd_same, List.map_append]; rfl
      generalize upd (upd (upd H3 T0 (.tup [.str "z", .str "get", .int late, .int (late + 1), oV t])) L1 (.lst [.ref T0])) L2 (.lst (ps.map V.ref ++ [.ref T0])) = H4 at sL fT2 fL2 ⊢
      have rw4 : RowsAt H4 L2 (withL rs late t) := by
        refine ⟨ps ++ [T0], fL2, by rw [List.length_append, lp, wl_len]; rfl, fun j p r e1 e2 => ?_⟩
        rcases wl_cases e2 with e2 | ⟨rfl, rfl⟩
        · have jl := (List.getElem?_eq_some_iff.mp e2).1
          rw [List.getElem?_append_left (by omega)] at e1
          exact sL _ _ (sH _ _ (hp j p r e1 e2))
        · rw [← lp, List.getElem?_append_right (Nat.le_refl _), Nat.sub_self] at e1
          cases e1
          exact fT2
      refine ⟨L2, withL rs late t, rfl, rw4, by rw [wl_len]; omega, wl_ok ok bh to, wl_nb ok nb to, fun L3 H' s' ords => ?_⟩
      obtain ⟨ts, hL3, pt⟩ := ords
      refine ⟨Nat.zero_le _, fun l hl0 => ?_⟩
      have sl := same_new (o := .lst []) hl0
      refine ⟨_, _, ords_dp (sl _ _ hL3) (Paired.mapP pt fun _ _ z => z.mono fun _ e => sl _ _ e), Dp.lst (SqL.of upd_same) .nil, ords_shaped _, by decide +kernel, _, rfl, ?_⟩
      rw [eqv_ords]
      have sA := sL.trans (s'.trans sl)
      generalize upd H' l (.lst []) = HZ at sA ⊢
      have gDU2 := sA _ _ gDU
      cases (ordersOf (withL rs late t)).isEmpty with
      | true =>
        refine iteF' ⟨_, rfl, ?_, sA _ _ gD9, sH.trans sA⟩
        rw [if_neg (fun y => nomatch y), List.append_nil]
        exact gDU2
      | false =>
        refine iteT' ⟨.ref DU, rfl, .inl ⟨rfl, _, SqL.of gDU2⟩, oV t, rfl, DU, _, _, rfl, rfl, gDU2, by rw [List.length_map]; exact Nat.lt_of_le_of_lt fl (by decide), _, rfl, by rw [upd_same, if_pos (show (!false) = true from rfl), List.map_append]; rfl, ?_, fun b o e => ?_⟩
        · rw [upd_ne nDU]
          exact sA _ _ gD9
        · rw [upd_ne (ne_of_none e hDH)]
          exact (sH.trans sA) b o e
    rintro σ H1 ⟨x6, rfl, gDU, gD9, sH⟩
    rw [List.length_map, List.take_of_length_le (Nat.le_refl _), ← dueE] at gDU
    refine ⟨.ref a, rfl, a, rfl, ⟨_, SqL.of (sH _ _ ha)⟩, fun M hM0 => made_lc (hh.mono sH) ok (by omega) hs hM0 (fun _ => rfl) (fun _ => rfl) fun ms H8 am hM s8 => ?_⟩
    have gDU8 := s8 _ _ gDU
    have sH8 := sH.trans s8
    have dl : (dueOf rs late).length ≤ 7 := by
      rw [dueE]
      exact Nat.le_trans (List.length_filter_le _ _) tlen
    have tl : Tell (oDs (dueOf rs late)) := ods_tell (by omega) fun o mo i e => by
      obtain ⟨k, rfl, hk⟩ := due_in mo e
      unfold SmI
      rw [Int.natAbs_natCast]
      exact Nat.lt_trans (show k < 7 by omega) (by decide)
    obtain ⟨c1, c2, c3⟩ := tl
    have hist : ∀ {y : Addr} {Hx : Hp}, Sq K Hx y (ms.map V.ref) → Same H8 Hx → Hist K C Hx y rs := fun {y Hx} h s => ⟨ms, h, (ask_mono s am).1, (ask_mono s am).2⟩
    have call : ∀ (y : Addr) (Hx : Hp) (Qx : VK) (Ex : XK) (vs : List V), vs = [.ref y] → Hist K C Hx y rs → Same H8 Hx → (∀ p H', Same H8 H' → H' p = some (.tup ((dueOf rs late).map oV)) → Qx (.ref p) H') → spTellX K C vs Hx Qx Ex := fun y Hx Qx Ex vs ev hi sx k => by
      subst ev
      refine ⟨y, rs, rfl, hi, by omega, ok, nb, fun no p H' s' hp => ?_, fun od ns p H' pm asc s' hp => ?_⟩
      · refine k p H' (sx.trans s') ?_
        rw [due_no ok nb bh no]
        exact hp
      · refine k p H' (sx.trans s') ?_
        rw [due_yes ok nb bh od pm asc, hp]
        split
        · rw [List.map_map]; rfl
        · rw [List.map_cons, List.map_map]; rfl
    refine ⟨.ref M, rfl, ?_⟩
    dsimp only [tNil]
    refine call M _ _ _ _ rfl (hist (.inl (SqL.of hM)) (Same.refl _)) (Same.refl _) fun p1 H9 s9 hp1 => ?_
    refine ⟨.ref p1, oDs (dueOf rs late), rfl, dv_of _ _ (.tup (SqT.of hp1) (ods_dp _)), c1, c2, c3, ?_⟩
    refine ⟨.ref DU, rfl, DU, _, rfl, .inl ⟨SqL.of (s9 _ _ gDU8), fun p2 hp2 => ?_⟩⟩
    have s10 := s9.trans (same_new (o := .tup ((dueOf rs late).map oV)) hp2)
    refine ⟨.ref p2, oDs (dueOf rs late), rfl, dv_of _ _ (.tup (SqT.of upd_same) (ods_dp _)), c1, c2, c3, rfl, true, congrArg V.bl (decide_eq_true rfl), iteT' ?_⟩
    generalize upd H9 p2 (.tup ((dueOf rs late).map oV)) = HA at s10 ⊢
    refine ⟨.ref M, rfl, M, _, rfl, .inl ⟨SqL.of (s10 _ _ hM), fun p3 hp3 => ?_⟩⟩
    have s11 := s10.trans (same_new (o := .tup (ms.map V.ref)) hp3)
    dsimp only [tNil]
    refine call p3 _ _ _ _ rfl (hist (.inr (SqT.of upd_same)) s11) s11 fun p4 HB s12 hp4 => ?_
    refine ⟨.ref DU, rfl, DU, _, rfl, .inl ⟨SqL.of (s12 _ _ gDU8), fun p5 hp5 => ?_⟩⟩
    have s13 := same_new (o := .tup ((dueOf rs late).map oV)) hp5
    refine ⟨_, _, .tup (SqT.of (s13 _ _ hp4)) (ods_dp _), .tup (SqT.of upd_same) (ods_dp _), ods_shaped _, ods_shaped _, ?_⟩
    have ev : PyData.eqv (.tuple ((dueOf rs late).map oD)) (.tuple ((dueOf rs late).map oD)) = true := eqv_ods _
    rw [ev]
    exact q _ (sH8.trans (s12.trans s13))
end
end K36
end

section
set_option Elab.async false
set_option linter.all false
set_option maxRecDepth 100000
set_option maxHeartbeats 4000000
/-! what is no history -/
namespace K36
open PySem PySem.Spec PyProof.Rows L2 KZ
abbrev sNH : Stmt := top 39
section
variable {K : PySem.W.Frag} {C cB cT : Addr}
/-- what is no history -/
def BadH (K : PySem.W.Frag) (C : Addr) (v : V) (H : Hp) : Prop := NoSq K H v ∨ ∃ a xs, ∃ g : V → Bool, v = .ref a ∧ Sq K H a xs ∧ xs.length ≤ 2000 ∧ (∀ x ∈ xs, ∃ t, TyX K H x t ∧ PySem.W.kitOne K t (.ref C) = some (g x)) ∧ ∃ x ∈ xs, g x = false
theorem looked_bad {v : V} {H : Hp} {E : XK} {go : Addr → List Row → Prop} (h : BadH K C v H) (o : OutF cB [("part", .str "asks")] H E) : Looked K C cB cT v H E go := by
  rcases h with h | ⟨a, xs, g, h1, h2, h3, h4, h5⟩
  · exact .inl ⟨h, o⟩
  · exact .inr (.inl ⟨a, xs, g, h1, h2, h3, h4, h5, o⟩)
theorem badh_pair {H : Hp} {a AS : Addr} {y : V} {ty : Value} (hs : Sq K H a [.ref AS, y]) (tx : TyX K H (.ref AS) (.ref C)) (me : PySem.W.kitOne K (.ref C) (.ref C) = some true) (tyy : TyX K H y ty) (no : PySem.W.kitOne K ty (.ref C) = some false) (ne : V.ref AS ≠ y) : BadH K C (.ref a) H := by
  refine .inr ⟨a, _, fun v => decide (v ≠ y), rfl, hs, (show 2 ≤ 2000 by decide), fun x m => ?_, y, by simp, by simp⟩
  rcases List.mem_cons.mp m with rfl | m
  · exact ⟨_, tx, by rw [me]; exact congrArg some (decide_eq_true ne).symm⟩
  rcases List.mem_cons.mp m with rfl | m
  · exact ⟨_, tyy, by rw [no]; simp⟩
  · cases m
theorem badh_one {H : Hp} {a : Addr} {y : V} {ty : Value} (hs : Sq K H a [y]) (tyy : TyX K H y ty) (no : PySem.W.kitOne K ty (.ref C) = some false) : BadH K C (.ref a) H := by
  refine .inr ⟨a, _, fun v => false, rfl, hs, (show 1 ≤ 2000 by decide), fun x m => ?_, y, by simp, rfl⟩
  rcases List.mem_cons.mp m with rfl | m
  · exact ⟨_, tyy, no⟩
  · cases m
/-- the types that are no sequence -/
structure NoLT (K : PySem.W.Frag) (C : Addr) : Prop where
  ts : ∀ T ∈ ["NoneType", "bool", "int", "str", "dict"], PySem.W.kitOne K (.type T) (.type "list") = some false ∧ PySem.W.kitOne K (.type T) (.type "tuple") = some false
  c : PySem.W.kitOne K (.ref C) (.type "list") = some false ∧ PySem.W.kitOne K (.ref C) (.type "tuple") = some false
end
theorem row_ok' {c : Str} {g : Bool} {b : Int} {e t : Option Int} (hc : isName (.str c) = true) (b0 : 0 ≤ b) (he : ∀ x, e = some x → b < x) (ht : ∀ x, t = some x → g = true ∧ e ≠ none ∧ 0 ≤ x) : (⟨c, g, b, e, t⟩ : Row).Ok := ⟨hc, b0, he, ht⟩
theorem flat_rep {α : Type} (x : α) : ∀ n : Nat, (List.replicate n [x]).flatten = List.replicate n x
  | 0 => rfl
  | n + 1 => by
    rw [List.replicate_succ, List.flatten_cons, flat_rep x n, List.replicate_succ]
    rfl
theorem PenAt.ne_of {H : Hp} {p c a : Addr} {cells : List Int} {n : Nat} {o : HO} (h : PenAt H p c cells n) (e : H a = some o) (k : ∀ xs, o ≠ .lst xs) : a ≠ p := fun z => by
  obtain ⟨x, g, hp, _⟩ := h.ex
  rw [z, hp] at e
  exact k _ (Option.some.inj e).symm
def soR : Row := ⟨"a", false, 0, some 1, none⟩
def badR (t : Int) : Row := ⟨"b", true, 0, some 1, some t⟩
def cR : Row := ⟨"c", true, 1, some 2, some 1000000⟩
theorem soR_ok : soR.Ok := row_ok' (by decide +kernel) (by decide) (fun x z => by cases z; decide) (fun x z => nomatch z)
theorem badR_ok {t : Int} (h : 0 ≤ t) : (badR t).Ok := row_ok' (by decide +kernel) (by decide) (fun x z => by cases z; decide) (fun x z => ⟨rfl, (fun y => nomatch y), by cases z; exact h⟩)
theorem cR_ok : cR.Ok := row_ok' (by decide +kernel) (by decide) (fun x z => by cases z; decide) (fun x z => ⟨rfl, (fun y => nomatch y), by cases z; decide⟩)
def rowsN (n : Nat) (t : Int) : List Row := List.replicate n soR ++ [badR t, cR]
theorem rowsN_len (n : Nat) (t : Int) : (rowsN n t).length = n + 2 := by
  unfold rowsN
  rw [List.length_append, List.length_replicate]
  rfl
theorem rowsN_ok {n : Nat} {t : Int} (h : 0 ≤ t) : ∀ r ∈ rowsN n t, r.Ok := fun r m => by
  rcases List.mem_append.mp m with m | m
  · rw [List.eq_of_mem_replicate m]; exact soR_ok
  rcases List.mem_cons.mp m with rfl | m
  · exact badR_ok h
  rcases List.mem_cons.mp m with rfl | m
  · exact cR_ok
  · cases m
theorem rowsN_bad {n : Nat} {t : Int} (h : n < 5) (ht : t = n ∨ t = (n : Int) + 1 ∨ t = (n : Int) + 2 ∨ t = 1000000000) : firstBad (rowsN n t) = some n := by
  have c : n = 0 ∨ n = 1 ∨ n = 2 ∨ n = 3 ∨ n = 4 := by omega
  rcases c with rfl | rfl | rfl | rfl | rfl <;> rcases ht with rfl | rfl | rfl | rfl <;> decide +kernel
def spNH (K : PySem.W.Frag) (C : Addr) : Sp := fun vs H Q _ => ∃ (p c : Addr) (cells : List Int) (n : Nat), vs = [.ref p] ∧ PenAt H p c cells n ∧ n ≤ 5000 ∧
  ∀ (t S D L1 L2 d1 d2 d3 : Addr) (odd : V) (at_ : Nat) (tv : Int) (ps1 ps2 : List Addr) (H' : Hp), PenAt H' p c cells (n + 3) → Kept p H H' → H' t = some (.tup [.ref S, .ref D]) → H' S = some (.lst [odd, .ref L1, .ref L2]) → H' D = some (.lst [.ref d1, .ref d2, .ref d3]) →
    H' d1 = some (.tup [.str "ask", .str "asks"]) → H' d2 = some (.tup [.str "many", .str "asks", .int 1000]) → H' d3 = some (.tup [.str "ask", .int at_]) → (∀ H'', LamX.ExtN H' H'' → BadH K C odd H'') →
    H' L1 = some (.lst (ps1.map V.ref)) → AsksAt C H' ps1 (List.replicate 1001 soR) → H' L2 = some (.lst (ps2.map V.ref)) → AsksAt C H' ps2 (rowsN at_ tv) → 0 ≤ tv → at_ < 5 → firstBad (rowsN at_ tv) = some at_ → Q (.ref t) H'
section
variable {P : Program} {w : World} {K : PySem.W.Frag} {mg : Str → Option Value} {base : Heap} {C cB : Addr}
theorem scNH : FnScope ["well", "ask_so", "at", "odd", "bad", "some"] ["well"] (defScope sNH) := ⟨rfl, rfl, rfl, by decide +kernel, rfl, by decide +kernel, by decide +kernel⟩
theorem ok_nh {f : Addr} {fd : FuncData} (F : Fun K "_law_no_history" "_law_no_history" sNH f fd) (T : B1 mg) (A : AskC K mg C) (NL : NoLT K C) (draw : Cal P w K mg base "_law_draw" 1 ["well", "many"] spDraw) (one : Cal P w K mg base "_law_one" 2 ["well", "some"] spOne) (IF : InitF P w K mg base C cB) : FnOk P w K mg base CX0 10 f fd ["well"] (spNH K C) := by
  obtain ⟨fD, dD, gD, GD, kD, bD⟩ := draw.ex
  obtain ⟨fO, dO, gO_, GO, kO, bO⟩ := one.ex
  obtain ⟨fI, dI, MK, GI, bI5, ⟨ds4, vI4, bI4⟩, ⟨ds3, vI3, bI3⟩, ⟨g1, kb1⟩, ⟨g4, kb4⟩⟩ := IF.ex
  let spI0 : Sp := fun vs H Q _ => spInit K C cB vs H Q fun _ _ _ => False
  have GI0 : FnOk P w K mg base CX0 8 fI dI psI spI0 := FnOk.x0 GI
  refine F.ok scNH (fun vs H Q E h => ?_) (fun cdv A' outer s0 H vs Q E hr h => ?_)
  · obtain ⟨p, c, cells, n, rfl, _⟩ := h
    rfl
  · obtain ⟨p, c, cells, n, rfl, pen, hn, q⟩ := h
    have hr9 : Room 9 _ := hr
    have hr2 : Room 2 _ := hr.mono (by decide)
    have hr1 : Room 1 _ := hr.mono (by decide)
    refine ⟨_, (pss_cons (ps_par (i := 1) (j := 2) (by rfl) scNH.nd rfl rfl (by decide) rfl rfl (pa_cons (pe_make MK GI0 hr9 (by rfl) A.mg bI4 vI4 pass0 (pa_cons pe_str (pa_cons pe_str (pa_cons pe_int (pa_cons pe_int pa_nil))))) (pa_cons (pe_call GD hr1 (by rfl) gD kD bD .nil pass0 (pa_cons (pv 0) (pa_cons pe_int pa_nil))) pa_nil)) (by rfl))
(pss_cons (ps_set (i := 3) scNH.nd rfl (Or.inl rfl) (pe_call GO hr2 (by rfl) gO_ kO bO .nil pass0 (pa_cons (pv 0) (pa_cons (pe_lst (pa_cons pe_non (pa_cons pe_int (pa_cons pe_str (pa_cons pe_dnewK (pa_cons (pv 1) (pa_cons (pe_lst (pa_cons pe_non pa_nil)) (pa_cons (pe_tup (pa_cons (pv 1) (pa_cons pe_int pa_nil))) (pa_cons (pe_lst (pa_cons (pe_lst (pa_cons (pv 1) pa_nil)) pa_nil)) pa_nil))))))))) pa_nil))))
(pss_cons (ps_set (i := 4) scNH.nd rfl (Or.inl rfl) (pe_make MK GI0 hr9 (by rfl) A.mg bI5 .nil pass0 (pa_cons pe_str (pa_cons pe_str (pa_cons pe_int (pa_cons pe_int (pa_cons (pe_call GO hr2 (by rfl) gO_ kO bO .nil pass0 (pa_cons (pv 0) (pa_cons (pe_lst (pa_cons (pv 2) (pa_cons (pe_op op_add (pv 2) pe_int) (pa_cons (pe_op op_add (pv 2) pe_int) (pa_cons (pe_op op_pow pe_int pe_int) pa_nil))))) pa_nil))) pa_nil)))))))
(pss_cons (ps_set (i := 5) scNH.nd rfl (Or.inl rfl) (pe_op op_cat (pe_op op_rep (pe_lst (pa_cons (pv 1) pa_nil)) (pv 2)) (pe_lst (pa_cons (pv 4) (pa_cons (pe_make MK GI0 hr9 (by rfl) A.mg bI5 .nil pass0 (pa_cons pe_str (pa_cons pe_str (pa_cons pe_int (pa_cons pe_int (pa_cons (pe_op op_pow pe_int pe_int) pa_nil)))))) pa_nil)))))
(pss_one (ps_ret (pe_tup (pa_cons (pe_lst (pa_cons (pv 3) (pa_cons (pe_op op_rep (pe_lst (pa_cons (pv 1) pa_nil)) pe_int) (pa_cons (pv 5) pa_nil)))) (pa_cons (pe_lst (pa_cons (pe_tup (pa_cons pe_str (pa_cons pe_str pa_nil))) (pa_cons (pe_tup (pa_cons pe_str (pa_cons pe_str (pa_cons pe_int pa_nil)))) (pa_cons (pe_tup (pa_cons pe_str (pa_cons (pv 2) pa_nil))) pa_nil)))) pa_nil))))))))), ?_⟩
    have lx : ∀ {x : Str}, x.length = 1 → x.length ≤ 1000 := fun h => by omega
    refine fun AS dx hx hdx ne => mk_row (r := soR) soR_ok (show ("a" : Str).length ≤ 1000 by decide +kernel) hx hdx ne fun H1 s1 ask => ⟨rfl, ?_⟩
    refine ⟨.ref p, rfl, p, c, cells, _, 5, rfl, pen.mono s1 (Nat.le_refl _), by omega, by decide, by decide, fun at0 H2 a0 a1 pen2 kp2 => ?_⟩
    obtain ⟨at_, rfl⟩ : ∃ j : Nat, at0 = j := ⟨_, (Int.toNat_of_nonneg a0).symm⟩
    obtain ⟨dxA, fAS1⟩ := id ask
    have pen1 := pen.mono s1 (Nat.le_refl _)
    have nAS := pen1.ne_of fAS1 fun _ z => nomatch z
    have fAS := kp2 _ _ nAS fAS1
    have kp12 := (Kept.of s1).trans kp2
    clear hx hdx ne ask pen1 kp2 fAS1
    refine ⟨_, _, rfl, .ref p, rfl, fun DD hDD => ⟨.ref AS, rfl, by show 1 ≤ sizeLine; decide, fun L5 hL5 => ⟨.ref AS, rfl, by show 2 ≤ sizeLine; decide, fun T6 hT6 => ⟨.ref AS, rfl, by show 1 ≤ sizeLine; decide, fun L7 hL7 => ⟨by show 1 ≤ sizeLine; decide, fun L8 hL8 => ⟨by show 8 ≤ sizeLine; decide, fun LO hLO => ?_⟩⟩⟩⟩⟩⟩
    have z1 := same_new (o := .dK []) hDD
    have fDD : upd H2 DD (.dK []) DD = some (.dK []) := upd_same
    generalize upd H2 DD (.dK []) = G1 at z1 fDD hL5 hT6 hL7 hL8 hLO ⊢
    have z2 := same_new (o := .lst [.non]) hL5
    have fL5 : upd G1 L5 (.lst [.non]) L5 = some (.lst [.non]) := upd_same
    generalize upd G1 L5 (.lst [.non]) = G2 at z2 fL5 hT6 hL7 hL8 hLO ⊢
    have z3 := same_new (o := .tup [.ref AS, .int 1]) hT6
    have fT6 : upd G2 T6 (.tup [.ref AS, .int 1]) T6 = some (.tup [.ref AS, .int 1]) := upd_same
    generalize upd G2 T6 (.tup [.ref AS, .int 1]) = G3 at z3 fT6 hL7 hL8 hLO ⊢
    have z4 := same_new (o := .lst [.ref AS]) hL7
    have fL7 : upd G3 L7 (.lst [.ref AS]) L7 = some (.lst [.ref AS]) := upd_same
    generalize upd G3 L7 (.lst [.ref AS]) = G4 at z4 fL7 hL8 hLO ⊢
    have z5 := same_new (o := .lst [.ref L7]) hL8
    have fL8 : upd G4 L8 (.lst [.ref L7]) L8 = some (.lst [.ref L7]) := upd_same
    generalize upd G4 L8 (.lst [.ref L7]) = G5 at z5 fL8 hLO ⊢
    have z6 := same_new (o := .lst [.non, .int 0, .str "asks", .ref DD, .ref AS, .ref L5, .ref T6, .ref L8]) hLO
    have fLO : upd G5 LO (.lst [.non, .int 0, .str "asks", .ref DD, .ref AS, .ref L5, .ref T6, .ref L8]) LO = some (.lst [.non, .int 0, .str "asks", .ref DD, .ref AS, .ref L5, .ref T6, .ref L8]) := upd_same
    have sG : Same H2 G5 := z1.trans (z2.trans (z3.trans (z4.trans z5)))
    have nLO := ((pen2.mono sG (Nat.le_refl _)).nn hLO).1
    generalize upd G5 LO (.lst [.non, .int 0, .str "asks", .ref DD, .ref AS, .ref L5, .ref T6, .ref L8]) = G6 at z6 fLO ⊢
    have pen6 := pen2.mono (sG.trans z6) (Nat.le_refl _)
    have hp6 : ∀ {a : Addr}, H2 a = none → a ≠ p := fun h => (pen2.nn h).1
    have nn : ∀ {a : Addr} {G : Hp}, Same H2 G → G a = none → a ≠ p := fun {a G} s h => ((pen2.mono s (Nat.le_refl _)).nn h).1
    have nL5 := nn z1 hL5
    have nL7 := nn (z1.trans (z2.trans z3)) hL7
    have nL8 := nn (z1.trans (z2.trans (z3.trans z4))) hL8
    have gDD := (z2.trans (z3.trans (z4.trans (z5.trans z6)))) _ _ fDD
    have gL5 := (z3.trans (z4.trans (z5.trans z6))) _ _ fL5
    have gT6 := (z4.trans (z5.trans z6)) _ _ fT6
    have gL7 := (z5.trans z6) _ _ fL7
    have gL8 := z6 _ _ fL8
    have gAS := (sG.trans z6) _ _ fAS
    have nDD := pen6.ne_of gDD fun _ z => nomatch z
    have nT6 := pen6.ne_of gT6 fun _ z => nomatch z
    have kG := kp12.trans (Kept.of (sG.trans z6))
    clear z1 z2 z3 z4 z5 z6 sG fDD fL5 fT6 fL7 fL8 hDD hL5 hT6 hL7 hL8 hLO pen2 hp6 nn fAS kp12
    refine ⟨p, c, LO, cells, _, _, rfl, pen6, by omega, fLO, nLO, by show 0 < 8; decide, by show 8 ≤ 100; decide, fun j xo HA ex penA kp => ?_⟩
    replace kG := kG.trans kp
    replace gAS := kp _ _ nAS gAS
    have od : ∀ H', KN p HA H' → BadH K C xo H' := by
      replace gDD := kp _ _ nDD gDD
      replace gL5 := kp _ _ nL5 gL5
      replace gT6 := kp _ _ nT6 gT6
      replace gL7 := kp _ _ nL7 gL7
      replace gL8 := kp _ _ nL8 gL8
      rcases j with _ | _ | _ | _ | _ | _ | _ | _ | j
      · cases ex
        exact fun H' k => .inl ⟨.type "NoneType", .base (.non), (NL.ts "NoneType" (by simp)).1, (NL.ts "NoneType" (by simp)).2⟩
      · cases ex
        exact fun H' k => .inl ⟨.type "int", .base (.int _), (NL.ts "int" (by simp)).1, (NL.ts "int" (by simp)).2⟩
      · cases ex
        exact fun H' k => .inl ⟨.type "str", .base (.str _), (NL.ts "str" (by simp)).1, (NL.ts "str" (by simp)).2⟩
      · cases ex
        exact fun H' k => .inl ⟨.type "dict", .base (TyOf.dK (k _ _ nDD gDD fun _ z => nomatch z)), (NL.ts "dict" (by simp)).1, (NL.ts "dict" (by simp)).2⟩
      · cases ex
        exact fun H' k => .inl ⟨.ref C, .base (A.ty H' AS dxA _ (k _ _ nAS gAS fun _ z => nomatch z)), NL.c.1, NL.c.2⟩
      · cases ex
        exact fun H' k => badh_one (.inl (SqL.of (k _ _ nL5 gL5 fun _ z => nomatch z))) (.base .non) (A.no "NoneType" (by simp))
      · cases ex
        exact fun H' k => badh_pair (.inr (SqT.of (k _ _ nT6 gT6 fun _ z => nomatch z))) (.base (A.ty H' AS dxA _ (k _ _ nAS gAS fun _ z => nomatch z))) A.me (.base (.int _)) (A.no "int" (by simp)) (fun z => nomatch z)
      · cases ex
        exact fun H' k => badh_one (.inl (SqL.of (k _ _ nL8 gL8 fun _ z => nomatch z))) (.base (.lst (k _ _ nL7 gL7 fun _ z => nomatch z))) (A.no "list" (by simp))
      · cases ex
    clear ex kp gL8 gL7 gT6 gL5 gDD fLO pen6 nDD nT6 nL5 nL7 nL8 nLO
    refine nx_go ?_
    refine ⟨.ref p, rfl, .int at_, rfl, .int at_, rfl, at_, 1, rfl, rfl, .int at_, rfl, at_, 2, rfl, rfl, 10, 9, rfl, rfl, ⟨by decide, by decide, by decide⟩, by show 4 ≤ sizeLine; decide, fun LB hLB => ?_⟩
    have sB := same_new (o := .lst [.int at_, .int (at_ + 1), .int (at_ + 2), .int ((10 : Int) ^ (9 : Int).toNat)]) hLB
    refine ⟨p, c, LB, cells, _, _, rfl, penA.mono sB (Nat.le_refl _), by omega, upd_same, (penA.nn hLB).1, by show 0 < 4; decide, by show 4 ≤ 100; decide, fun j2 x2 HB ex2 penB kpB => ?_⟩
    have kAB : Kept p HA HB := (Kept.of sB).trans kpB
    obtain ⟨tv, rfl, htv⟩ : ∃ tv : Int, x2 = .int tv ∧ (tv = (at_ : Int) ∨ tv = (at_ : Int) + 1 ∨ tv = (at_ : Int) + 2 ∨ tv = 1000000000) := by
      rcases j2 with _ | _ | _ | _ | j2
      · cases ex2
        exact ⟨_, rfl, .inl rfl⟩
      · cases ex2
        exact ⟨_, rfl, .inr (.inl rfl)⟩
      · cases ex2
        exact ⟨_, rfl, .inr (.inr (.inl rfl))⟩
      · cases ex2
        exact ⟨_, rfl, .inr (.inr (.inr (by decide)))⟩
      · cases ex2
    have tv0 : 0 ≤ tv := by omega
    have gASB := kAB _ _ nAS gAS
    have kGB := kG.trans kAB
    have odB : ∀ H', KN p HB H' → BadH K C xo H' := fun H' k => od H' ((KN.kept kAB).trans k)
    clear ex2 kpB sB hLB kAB kG gAS od penA
    refine fun B dxb hxb hdxb neb => mk_row (r := badR tv) (badR_ok tv0) (show ("b" : Str).length ≤ 1000 by decide +kernel) hxb hdxb neb fun HC sC askB => ⟨rfl, nx_go ?_⟩
    refine ⟨.ref AS, rfl, by show 1 ≤ sizeLine; decide, fun R1 hR1 => ⟨.int at_, rfl, R1, at_, _, rfl, rfl, upd_same, by omega, by omega, Nat.le_trans (show 1 * ((at_ : Nat) : Int).toNat ≤ 5 by rw [Int.toNat_natCast]; omega) (by decide), fun R2 hR2 => ?_⟩⟩
    rw [flat_rep, Int.toNat_natCast]
    have s1 := (same_new (o := .lst [.ref AS]) hR1).trans (same_new (o := .lst (List.replicate at_ (V.ref AS))) hR2)
    have fR2 : upd (upd HC R1 (.lst [.ref AS])) R2 (.lst (List.replicate at_ (V.ref AS))) R2 = some (.lst (List.replicate at_ (V.ref AS))) := upd_same
    generalize upd (upd HC R1 (.lst [.ref AS])) R2 (.lst (List.replicate at_ (V.ref AS))) = HD at s1 fR2 ⊢
    refine ⟨.ref B, rfl, 10, 6, rfl, rfl, ⟨by decide, by decide, by decide⟩, fun Cc dxc hxc hdxc nec => mk_row (r := cR) cR_ok (show ("c" : Str).length ≤ 1000 by decide +kernel) hxc hdxc nec fun HE sE askC => ⟨rfl, by show 2 ≤ sizeLine; decide, fun R3 hR3 => ?_⟩⟩
    have s3 := same_new (o := .lst [.ref B, .ref Cc]) hR3
    refine ⟨R2, R3, _, _, rfl, rfl, s3 _ _ (sE _ _ fR2), upd_same, Nat.le_trans (show _ ≤ 7 by rw [List.length_replicate]; show at_ + 2 ≤ 7; omega) (by decide), fun R4 hR4 => ?_⟩
    have s4 := same_new (o := .lst (List.replicate at_ (V.ref AS) ++ [.ref B, .ref Cc])) hR4
    have fR4 : upd (upd HE R3 (.lst [.ref B, .ref Cc])) R4 (.lst (List.replicate at_ (V.ref AS) ++ [.ref B, .ref Cc])) R4 = some (.lst (List.replicate at_ (V.ref AS) ++ [.ref B, .ref Cc])) := upd_same
    have sF := sC.trans (s1.trans (sE.trans (s3.trans s4)))
    have askB4 := (askB.mono (s1.trans (sE.trans (s3.trans s4))))
    have askC4 := askC.mono (s3.trans s4)
    generalize upd (upd HE R3 (.lst [.ref B, .ref Cc])) R4 (.lst (List.replicate at_ (V.ref AS) ++ [.ref B, .ref Cc])) = HF at s4 sF fR4 askB4 askC4 ⊢
    clear s3 s4 s1 sE sC askB askC fR2 hxc hdxc nec hxb hdxb neb hR1 hR2 hR3
    refine nx_go ?_
    refine ⟨xo, rfl, .ref AS, rfl, by show 1 ≤ sizeLine; decide, fun R5 hR5 => ⟨R5, 1001, _, rfl, rfl, upd_same, by decide, by decide, by show 1 * 1001 ≤ sizeLine; decide, fun R6 hR6 => ?_⟩⟩
    rw [flat_rep]
    have t1 := (same_new (o := .lst [.ref AS]) hR5).trans (same_new (o := .lst (List.replicate (1001 : Int).toNat (V.ref AS))) hR6)
    have fR6 : upd (upd HF R5 (.lst [.ref AS])) R6 (.lst (List.replicate (1001 : Int).toNat (V.ref AS))) R6 = some (.lst (List.replicate 1001 (V.ref AS))) := upd_same
    generalize upd (upd HF R5 (.lst [.ref AS])) R6 (.lst (List.replicate (1001 : Int).toNat (V.ref AS))) = HG at t1 fR6 ⊢
    refine ⟨.ref R4, rfl, by show 3 ≤ sizeLine; decide, fun S hS => ⟨by show 2 ≤ sizeLine; decide, fun d1 hd1 => ⟨by show 3 ≤ sizeLine; decide, fun d2 hd2 => ⟨.int at_, rfl, by show 2 ≤ sizeLine; decide, fun d3 hd3 => ⟨by show 3 ≤ sizeLine; decide, fun D hD => ⟨by show 2 ≤ sizeLine; decide, fun t ht => ?_⟩⟩⟩⟩⟩⟩
    have u1 := same_new (o := .lst [xo, .ref R6, .ref R4]) hS
    have gS : upd HG S (.lst [xo, .ref R6, .ref R4]) S = some (.lst [xo, .ref R6, .ref R4]) := upd_same
    generalize upd HG S (.lst [xo, .ref R6, .ref R4]) = K1 at u1 gS hd1 hd2 hd3 hD ht ⊢
    have u2 := same_new (o := .tup [.str "ask", .str "asks"]) hd1
    have g1' : upd K1 d1 (.tup [.str "ask", .str "asks"]) d1 = some (.tup [.str "ask", .str "asks"]) := upd_same
    generalize upd K1 d1 (.tup [.str "ask", .str "asks"]) = K2 at u2 g1' hd2 hd3 hD ht ⊢
    have u3 := same_new (o := .tup [.str "many", .str "asks", .int 1000]) hd2
    have g2' : upd K2 d2 (.tup [.str "many", .str "asks", .int 1000]) d2 = some (.tup [.str "many", .str "asks", .int 1000]) := upd_same
    generalize upd K2 d2 (.tup [.str "many", .str "asks", .int 1000]) = K3 at u3 g2' hd3 hD ht ⊢
    have u4 := same_new (o := .tup [.str "ask", .int at_]) hd3
    have g3' : upd K3 d3 (.tup [.str "ask", .int at_]) d3 = some (.tup [.str "ask", .int at_]) := upd_same
    generalize upd K3 d3 (.tup [.str "ask", .int at_]) = K4 at u4 g3' hD ht ⊢
    have u5 := same_new (o := .lst [.ref d1, .ref d2, .ref d3]) hD
    have gD' : upd K4 D (.lst [.ref d1, .ref d2, .ref d3]) D = some (.lst [.ref d1, .ref d2, .ref d3]) := upd_same
    generalize upd K4 D (.lst [.ref d1, .ref d2, .ref d3]) = K5 at u5 gD' ht ⊢
    have u6 := same_new (o := .tup [.ref S, .ref D]) ht
    have gt : upd K5 t (.tup [.ref S, .ref D]) t = some (.tup [.ref S, .ref D]) := upd_same
    generalize upd K5 t (.tup [.ref S, .ref D]) = K6 at u6 gt ⊢
    have v5 := u5.trans u6
    have v4 := u4.trans v5
    have v3 := u3.trans v4
    have v2 := u2.trans v3
    have v0 := t1.trans (u1.trans v2)
    have vv := sF.trans v0
    have so : AskAt C K6 AS soR := ⟨dxA, vv _ _ gASB⟩
    refine q t S D R6 R4 d1 d2 d3 xo at_ tv (List.replicate 1001 AS) (List.replicate at_ AS ++ [B, Cc]) K6 ((penB.mono vv (Nat.le_refl _)).more (by omega)) (kGB.trans (Kept.of vv)) gt (v2 _ _ gS) (u6 _ _ gD') (v3 _ _ g1') (v4 _ _ g2') (v5 _ _ g3') (fun H'' e => odB _ ((KN.same vv).trans (KN.ext e))) ?_ ⟨by rw [List.length_replicate, List.length_replicate], fun i p r e1 e2 => ?_⟩ ?_ ⟨?_, fun i p r e1 e2 => ?_⟩ tv0 (by omega) (rowsN_bad (by omega) htv)
    · rw [List.map_replicate]
      exact (u1.trans v2) _ _ fR6
    · rw [List.eq_of_mem_replicate (List.mem_of_getElem? e1), List.eq_of_mem_replicate (List.mem_of_getElem? e2)]
      exact so
    · rw [List.map_append, List.map_replicate]
      exact v0 _ _ fR4
    · rw [rowsN_len, List.length_append, List.length_replicate]
      rfl
    · unfold rowsN at e2
      by_cases hi : i < at_
      · rw [List.getElem?_append_left (by rw [List.length_replicate]; exact hi)] at e1 e2
        rw [List.eq_of_mem_replicate (List.mem_of_getElem? e1), List.eq_of_mem_replicate (List.mem_of_getElem? e2)]
        exact so
      · rw [List.getElem?_append_right (by rw [List.length_replicate]; omega), List.length_replicate] at e1 e2
        generalize i - at_ = k at e1 e2
        rcases k with _ | _ | k
        · cases e1
          cases e2
          exact askB4.mono v0
        · cases e1
          cases e2
          exact askC4.mono v0
        · cases e1
end
end K36
end

section
set_option Elab.async false
set_option linter.all false
set_option maxRecDepth 100000
set_option maxHeartbeats 4000000
/-! what plays no part is refused -/
namespace K36
open PySem PySem.Spec PyProof.Rows L2 KZ
abbrev sRF : Stmt := top 44
def swap3 {α : Type} : List α → List α → List α
  | [], [a, b, c] => [a, c, b]
  | _, _ => []
/-- tellable, as it lets out -/
structure TellF (P : Program) (w : World) (K : PySem.W.Frag) (mg : Str → Option Value) (base : Heap) (C cB cT : Addr) : Prop where
  ex : ∃ f fd, mg "tellable" = some (.ref f) ∧ FnOk P w K mg base (L2.CX P w) 9 f fd ["asks"] (spTellable K C cB cT) ∧ PySem.W.keepIn K (.ref f) = true ∧ Binds K fd ["asks"] []
structure SureK (P : Program) (w : World) (K : PySem.W.Frag) (mg : Str → Option Value) (base : Heap) (C cB cT cC : Addr) : Prop where
  ex : ∃ f fd, mg "surely" = some (.ref f) ∧ FnOk P w K mg base (L2.CX P w) 10 f fd ["asks", "one", "other"] (spSurely K C cB cT cC) ∧ PySem.W.keepIn K (.ref f) = true ∧ Binds K fd ["asks", "one", "other"] [] ∧ KBinds K fd ["asks", "one", "other"] ["asks", "other", "one"] swap3 swap3
def spRF (T0 : List (Addr × Str)) : Sp := fun vs H Q _ => ∃ (p c a : Addr) (cells : List Int) (n : Nat) (rs : List Row), vs = [.ref p, .ref a] ∧ PenAt H p c cells n ∧ n ≤ 4000 ∧ RowsAt H a rs ∧ rs.length ≤ 6 ∧ (∀ r ∈ rs, r.Ok) ∧ firstBad rs = none ∧ (∀ r ∈ rs, r.c.length ≤ 1000) ∧ LamX.Tabs T0 H ∧
  ∀ H', PenAt H' p c cells (n + 10) → KN p H H' → LamX.Tabs T0 H' → Q (.bl true) H'
section
variable {P : Program} {w : World} {K : PySem.W.Frag} {mg : Str → Option Value} {base : Heap} {C cO cB cT cC : Addr}
theorem heard_ask {H : Hp} {Q : VK} {v : V} (go : ∀ t H2, Same H H2 → H2 t = some (.tup [.str "ask", v]) → Q (.ref t) H2) : OutF cB [("part", v)] H (HeardE cB cT cC Q) := fun d H' s' hd => ⟨d, _, rfl, hd, .inl ⟨rfl, v, rfl, fun t H2 s2 ht => go t H2 (s'.trans s2) ht⟩⟩
theorem heard_many {H : Hp} {Q : VK} (go : ∀ t H2, Same H H2 → H2 t = some (.tup [.str "many", .str "asks", .int 1000]) → Q (.ref t) H2) : OutF cT [("most", .int 1000), ("what", .str "asks")] H (HeardE cB cT cC Q) := fun d H' s' hd => ⟨d, _, rfl, hd, .inr (.inl ⟨rfl, .str "asks", .int 1000, rfl, rfl, fun t H2 s2 ht => go t H2 (s'.trans s2) ht⟩)⟩
theorem heard_clash {H : Hp} {Q : VK} (go : ∀ t H2, Same H H2 → H2 t = some (.tup [.str "clash", .str "order"]) → Q (.ref t) H2) : OutF cC [("part", .str "order")] H (HeardE cB cT cC Q) := fun d H' s' hd => ⟨d, _, rfl, hd, .inr (.inr ⟨rfl, .str "order", rfl, fun t H2 s2 ht => go t H2 (s'.trans s2) ht⟩)⟩
theorem sure_one {H : Hp} {Q : VK} {E : XK} {M : Addr} {rs : List Row} {v1 v2 : V} {d1 d2 : PyData} (hist : Hist K C H M rs) (hl : rs.length ≤ 1000) (ok : ∀ r ∈ rs, r.Ok) (nb : firstBad rs = none) (g1 : Dv K H v1 d1) (g2 : Dv K H v2 d2) (no : isPartD rs d1 = false) (o : OutF cB [("part", .str "one")] H E) : spSurely K C cB cT cC [.ref M, v1, v2] H Q E :=
  ⟨.ref M, v1, v2, d1, d2, rfl, g1, g2, .inr (.inr ⟨M, rs, rfl, hist, by omega, ok, fun h => absurd h (by omega), fun _ i e => (by rw [nb] at e; cases e), fun _ _ => ⟨fun _ => o, fun y => absurd no (by rw [y]; exact fun z => nomatch z), fun i j e1 e2 mi mj => (by
    rw [e1] at no
    exact absurd (List.any_eq_true.mpr ⟨i, mi, decide_eq_true rfl⟩) (by rw [show (partsOf rs).any (fun (n : Nat) => decide ((n : Int) = (i : Int))) = false from no]; exact fun z => nomatch z))⟩⟩)⟩
theorem sure_other {H : Hp} {Q : VK} {E : XK} {M : Addr} {rs : List Row} {v1 v2 : V} {d1 d2 : PyData} (hist : Hist K C H M rs) (hl : rs.length ≤ 1000) (ok : ∀ r ∈ rs, r.Ok) (nb : firstBad rs = none) (g1 : Dv K H v1 d1) (g2 : Dv K H v2 d2) (yes : isPartD rs d1 = true) (no : isPartD rs d2 = false) (o : OutF cB [("part", .str "other")] H E) : spSurely K C cB cT cC [.ref M, v1, v2] H Q E :=
  ⟨.ref M, v1, v2, d1, d2, rfl, g1, g2, .inr (.inr ⟨M, rs, rfl, hist, by omega, ok, fun h => absurd h (by omega), fun _ i e => (by rw [nb] at e; cases e), fun _ _ => ⟨fun y => absurd yes (by rw [y]; exact fun z => nomatch z), fun _ _ => o, fun i j e1 e2 mi mj => (by
    rw [e2] at no
    exact absurd (List.any_eq_true.mpr ⟨j, mj, decide_eq_true rfl⟩) (by rw [show (partsOf rs).any (fun (n : Nat) => decide ((n : Int) = (j : Int))) = false from no]; exact fun z => nomatch z))⟩⟩)⟩
theorem looked_many {H : Hp} {E : XK} {M : Addr} {rs : List Row} {go : Addr → List Row → Prop} (hist : Hist K C H M rs) (h1 : 1000 < rs.length) (h2 : rs.length ≤ 2000) (ok : ∀ r ∈ rs, r.Ok) (o : OutF cT [("most", .int 1000), ("what", .str "asks")] H E) : Looked K C cB cT (.ref M) H E go :=
  .inr (.inr ⟨M, rs, rfl, hist, h2, ok, fun _ => o, fun h => absurd h (by omega), fun h => absurd h (by omega)⟩)
theorem looked_told {H : Hp} {E : XK} {M : Addr} {rs : List Row} {go : Addr → List Row → Prop} {i : Nat} (hist : Hist K C H M rs) (hl : rs.length ≤ 1000) (ok : ∀ r ∈ rs, r.Ok) (fb : firstBad rs = some i) (o : OutF cB [("part", .int i)] H E) : Looked K C cB cT (.ref M) H E go :=
  .inr (.inr ⟨M, rs, rfl, hist, by omega, ok, fun h => absurd h (by omega), fun _ j e => (by rw [fb] at e; cases e; exact o), fun _ e => (by rw [fb] at e; cases e)⟩)
theorem st_go {t : TS} {D : Ends} {σ : L2.St} {H : Hp} (σ' : L2.St) (e : σ = σ') (h : t D σ' H) : t D σ H := by rw [e]; exact h
theorem drop_of {te : TE} {rest : TS} {D : Ends} {σ : L2.St} {H : Hp} (good : Hp → Prop) (h : ∀ Q : VK, (∀ v H', good H' → Q v H') → te σ H Q) (go : ∀ H', good H' → rest D σ H') : tSeq (tDrop te) rest D σ H := h _ fun v H' g => go H' g
theorem part_no {rs : List Row} {i : Int} (h : ∀ k ∈ partsOf rs, ((k : Nat) : Int) ≠ i) : isPartD rs (.int i) = false := List.any_eq_false.mpr fun k mk z => h k mk (of_decide_eq_true z)
/-- what is heard so far, each an ask -/
structure RS (T0 : List (Addr × Str)) (p c : Addr) (cells : List Int) (N : Nat) (H5 : Hp) (HD : Addr) (ws : List Str) (H : Hp) : Prop where
  ls : ∃ ts : List Addr, H HD = some (.lst (ts.map V.ref)) ∧ Paired (fun t (w : Str) => H t = some (.tup [.str "ask", .str w])) ts ws
  kn : KN p H5 H
  pen : PenAt H p c cells N
  tabs : LamX.Tabs T0 H
theorem RS.push {T0 : List (Addr × Str)} {p c : Addr} {cells : List Int} {N : Nat} {H5 H H9 : Hp} {HD t : Addr} {ws : List Str} {w : Str} {ts : List Addr} (nD : HD ≠ p ∧ HD ≠ c) (h5 : H5 HD = none) (hl : H HD = some (.lst (ts.map V.ref))) (hp : Paired (fun t (w : Str) => H t = some (.tup [.str "ask", .str w])) ts ws) (kn : KN p H5 H) (pen0 : PenAt H p c cells N) (k : KN p H H9) (pen : PenAt H9 p c cells N) (tabs : LamX.Tabs T0 H9) (ht : H9 t = some (.tup [.str "ask", .str w])) :
    RS T0 p c cells N H5 HD (ws ++ [w]) (upd H9 HD (.lst (ts.map V.ref ++ [.ref t]))) := by
  have hl9 := k _ _ nD.1 hl fun _ y => nomatch y
  have keep : ∀ q x, H9 q = some (.tup x) → upd H9 HD (.lst (ts.map V.ref ++ [.ref t])) q = some (.tup x) := fun q x e => by
    rw [upd_ne (fun z => by rw [z, hl9] at e; cases e)]
    exact e
  refine ⟨⟨ts ++ [t], by rw [upd_same, List.map_append]; rfl, Paired.snoc (Paired.mapP hp fun q w e => keep _ _ (k _ _ (pen0.ne_of e fun _ y => nomatch y) e fun _ y => nomatch y)) (keep _ _ ht)⟩, fun b o nb e ne => ?_, pen.upd nD, tabs_lst tabs hl9⟩
  rw [upd_ne (ne_of_none e h5)]
  exact k _ _ nb (kn b o nb e ne) ne
def asksD (ws : List Str) : PyData := .list (ws.map fun w => .tuple [.str "ask", .str w])
theorem asks_all {H : Hp} : ∀ {ts : List Addr} {ws : List Str}, Paired (fun t (w : Str) => H t = some (.tup [.str "ask", .str w])) ts ws → DpAll K H (ts.map V.ref) (ws.map fun w => .tuple [.str "ask", .str w])
  | _, _, .nil => .nil
  | _, _, .cons h r => .cons (.tup (SqT.of h) (.cons (.str _) (.cons (.str _) .nil))) (asks_all r)
def rfW : List Str := ["one", "other", "one", "asks", "asks"]
theorem rfW_ok : SeqAt.shaped (asksD rfW) = true ∧ PyData.eqv (asksD rfW) (asksD rfW) = true := by decide +kernel
def duesV (k : Nat) : List (List V) := [[.str "ask", .str "asks"], [.str "many", .str "asks", .int 1000], [.str "ask", .int k]]
def duesD (k : Nat) : PyData := .list [.tuple [.str "ask", .str "asks"], .tuple [.str "many", .str "asks", .int 1000], .tuple [.str "ask", .int k]]
theorem dues_ok {k : Nat} (h : k < 5) : SeqAt.shaped (duesD k) = true ∧ PyData.eqv (duesD k) (duesD k) = true := by
  have z : ∀ k : Fin 5, SeqAt.shaped (duesD k) = true ∧ PyData.eqv (duesD k) (duesD k) = true := by decide +kernel
  exact z ⟨k, h⟩
theorem dues_dp {H : Hp} {k : Nat} {D : Addr} {ts : List Addr} (hD : H D = some (.lst (ts.map V.ref))) (h : Paired (fun t (xs : List V) => H t = some (.tup xs)) ts (duesV k)) : Dp K H (.ref D) (duesD k) := by
  unfold duesV at h
  cases h with
  | cons a h =>
    cases h with
    | cons b h =>
      cases h with
      | cons c h =>
        cases h
        exact .lst (SqL.of hD) (.cons (.tup (SqT.of a) (.cons (.str _) (.cons (.str _) .nil))) (.cons (.tup (SqT.of b) (.cons (.str _) (.cons (.str _) (.cons (.int _) .nil)))) (.cons (.tup (SqT.of c) (.cons (.str _) (.cons (.int _) .nil))) .nil)))
theorem scRF : FnScope ["well", "rows", "made", "mine", "row", "odd", "at", "one", "other", "heard", "some", "dues"] ["well", "rows"] (defScope sRF) := ⟨rfl, rfl, rfl, by decide +kernel, rfl, by decide +kernel, by decide +kernel⟩
theorem ok_rf {f cc Pt : Addr} {fd : FuncData} {T0 : List (Addr × Str)} (F : Fun K "_law_refused_right" "_law_refused_right" sRF f fd) (hcode : fd.code = .ref cc) (LA : LamAt T0 base mg cc Pt ("_law_refused_right" ++ ".<locals>.")) (T : B1 mg) (A : AskC K mg C) (NL : NoLT K C)
    (made : Cal P w K mg base "_law_made" 10 ["row"] (spMade C)) (parts : Cal P w K mg base "_law_parts" 1 ["rows"] spLParts) (one : Cal P w K mg base "_law_one" 2 ["well", "some"] spOne) (nh : Cal P w K mg base "_law_no_history" 10 ["well"] (spNH K C))
    (SF : SureK P w K mg base C cB cT cC) (TF : TellF P w K mg base C cB cT) (HF : HeardF K mg cO cB cT cC) : FnG P w K mg base CX0 13 f fd ["well", "rows"] (spRF T0) := by
  obtain ⟨fM, dM, gM, GM, kM, bM⟩ := made.ex
  obtain ⟨fP, dP, gP, GP, kP, bP⟩ := parts.ex
  obtain ⟨fO, dO, gO_, GO, kO, bO⟩ := one.ex
  obtain ⟨fN, dN, gN, GN, kN, bN⟩ := nh.ex
  obtain ⟨fSo, dSo, gSo, GSo, kSo, bSo, kbS⟩ := SF.ex
  obtain ⟨fTo, dTo, gTo, GTo, kTo, bTo⟩ := TF.ex
  refine okGc F hcode scRF (fun vs H Q E h => ?_) (fun A' outer s0 H vs Q E hgd hr h => ?_)
  · obtain ⟨p, c, a, cells, n, rs, rfl, _⟩ := h
    rfl
  · obtain ⟨p, c, a, cells, n, rs, rfl, pen, hn, hh, hl, ok, nb, hs, tabs, q⟩ := h
    have hr12 : Room 12 _ := hr
    have hr10 : Room 10 _ := hr.mono (by decide)
    have hr2 : Room 2 _ := hr.mono (by decide)
    have hr1 : Room 1 _ := hr.mono (by decide)
    refine ⟨_, (pss_cons (ps_asg (pe_tup (pa_cons (pe_lc (own := [("row", 4)]) (g := gName 4) (tt := tYes) (by rfl) scRF.nd (pi_list (pv 1)) (blkOk_by (own := [("row", 4)]) (N := ["well", "rows", "made", "mine", "row", "odd", "at", "one", "other", "heard", "some", "dues"]) (sc := defScope sRF) (by decide +kernel)) (fun _ _ _ _ _ => pg_name (i := 4) scRF.nd rfl (Or.inl rfl)) (fun _ _ _ _ _ => pts_nil) (fun _ _ _ _ _ => pe_call GM hr10 (by rfl) gM kM bM .nil pass0 (pa_cons (pv 4) pa_nil))) (pa_cons (pe_call GP hr1 (by rfl) gP kP bP .nil pass0 (pa_cons (pv 1) pa_nil)) pa_nil))) (pg_tup rfl (pgs_cons (pg_name (i := 2) scRF.nd rfl (Or.inr rfl)) (pgs_cons (pg_name (i := 3) scRF.nd rfl (Or.inr rfl)) pgs_nil))))
(pss_cons (ps_set (i := 5) scRF.nd rfl (Or.inl rfl) (pe_op op_cat (pe_lst (pa_cons pe_non (pa_cons (pe_un un_neg pe_int) (pa_cons (pe_callB call_len (by rfl) T.len PySem.boot_len (pa_cons (pv 1) pa_nil)) (pa_cons pe_str (pa_cons (pe_tup (pa_cons pe_int pa_nil)) (pa_cons (pe_lst (pa_cons pe_int pa_nil)) (pa_cons pe_bl (pa_cons pe_bl pa_nil))))))))) (pe_lc (own := [("at", 6)]) (g := gName 6) (by rfl) scRF.nd (pi_range1 (by rfl) T.range (pa_cons (pe_callB call_len (by rfl) T.len PySem.boot_len (pa_cons (pv 1) pa_nil)) pa_nil)) (blkOk_by (own := [("at", 6)]) (N := ["well", "rows", "made", "mine", "row", "odd", "at", "one", "other", "heard", "some", "dues"]) (sc := defScope sRF) (by decide +kernel)) (fun _ _ _ _ _ => pg_name (i := 6) scRF.nd rfl (Or.inl rfl)) (fun _ _ _ _ _ => pts_one (pt_cmpR (op_notIn_seqK K) (pv 6) (pv 3) (by rfl))) (fun _ _ _ _ _ => pv 6))))
(pss_cons (ps_asg (pe_tup (pa_cons (pe_call GO hr2 (by rfl) gO_ kO bO .nil pass0 (pa_cons (pv 0) (pa_cons (pv 5) pa_nil))) (pa_cons (pe_call GO hr2 (by rfl) gO_ kO bO .nil pass0 (pa_cons (pv 0) (pa_cons (pv 5) pa_nil))) pa_nil))) (pg_tup rfl (pgs_cons (pg_name (i := 7) scRF.nd rfl (Or.inr rfl)) (pgs_cons (pg_name (i := 8) scRF.nd rfl (Or.inr rfl)) pgs_nil))))
(pss_cons (ps_set (i := 9) scRF.nd rfl (Or.inl rfl) (pe_lst (pa_cons (pe_heard (t := fun E_ => tCall (spSurely K C cB cT cC) [] E_ (tCons (tVar 2) (tCons (tVar 7) (tCons (tVar 8) tNil)))) HF LA T hr12 (by rfl) rfl (LamX.lamS_by (sc := defScope sRF) (by decide +kernel)) rfl (fun _ _ _ _ _ => rfl) (fun A_ outer_ s_ H_ E_ f_ c_ hr_ => pe_call GSo (hr_.mono (by decide)) (by rfl) gSo kSo bSo .nil (passes_call (takes_of rfl rfl rfl rfl) fun _ _ _ _ z => z) (pa_cons (pv 2) (pa_cons (pv 7) (pa_cons (pv 8) pa_nil))))) pa_nil)))
(pss_cons (ps_expr (pe_bm PySem.F.plainAttrs_list PySem.F.slot_list_append PySem.F.type_list_append mt_append (pv 9) (pa_cons (pe_ifExp (pt_cmpR (op_neD hr.units) (pv 3) (pe_lst pa_nil) (nomark _)) (pe_heard (t := fun E_ => tCall (spSurely K C cB cT cC) [] E_ (tCons (tVar 2) (tCons (tCall spOne [] E0 (tCons (tVar 0) (tCons (tVar 3) tNil))) (tCons (tVar 8) tNil)))) HF LA T hr12 (by rfl) rfl (LamX.lamS_by (sc := defScope sRF) (by decide +kernel)) rfl (fun _ _ _ _ _ => rfl) (fun A_ outer_ s_ H_ E_ f_ c_ hr_ => pe_call GSo (hr_.mono (by decide)) (by rfl) gSo kSo bSo .nil (passes_call (takes_of rfl rfl rfl rfl) fun _ _ _ _ z => z) (pa_cons (pv 2) (pa_cons (pe_call GO (hr_.mono (by decide)) (by rfl) gO_ kO bO .nil pass0 (pa_cons (pv 0) (pa_cons (pv 3) pa_nil))) (pa_cons (pv 8) pa_nil))))) (pe_tup (pa_cons pe_str (pa_cons pe_str pa_nil)))) pa_nil)))
(pss_cons (ps_expr (pe_bm PySem.F.plainAttrs_list PySem.F.slot_list_append PySem.F.type_list_append mt_append (pv 9) (pa_cons (pe_heard (t := fun E_ => tCallK (spSurely K C cB cT cC) swap3 E_ tNil (tCons (tVar 2) (tCons (tVar 8) (tCons (tVar 7) tNil)))) HF LA T hr12 (by rfl) rfl (LamX.lamS_by (sc := defScope sRF) (by decide +kernel)) rfl (fun _ _ _ _ _ => rfl) (fun A_ outer_ s_ H_ E_ f_ c_ hr_ => pe_callK0 GSo (hr_.mono (by decide)) (by rfl) gSo kSo kbS (passes_call (takes_of rfl rfl rfl rfl) fun _ _ _ _ z => z) (pk_cons (pv 2) (pk_cons (pv 8) (pk_cons (pv 7) pk_nil))))) pa_nil)))
(pss_cons (ps_expr (pe_bm PySem.F.plainAttrs_list PySem.F.slot_list_append PySem.F.type_list_append mt_append (pv 9) (pa_cons (pe_heard (t := fun E_ => tCall (spSurely K C cB cT cC) [] E_ (tCons (tC .non) (tCons (tVar 7) (tCons (tVar 8) tNil)))) HF LA T hr12 (by rfl) rfl (LamX.lamS_by (sc := defScope sRF) (by decide +kernel)) rfl (fun _ _ _ _ _ => rfl) (fun A_ outer_ s_ H_ E_ f_ c_ hr_ => pe_call GSo (hr_.mono (by decide)) (by rfl) gSo kSo bSo .nil (passes_call (takes_of rfl rfl rfl rfl) fun _ _ _ _ z => z) (pa_cons pe_non (pa_cons (pv 7) (pa_cons (pv 8) pa_nil))))) pa_nil)))
(pss_cons (ps_expr (pe_bm PySem.F.plainAttrs_list PySem.F.slot_list_append PySem.F.type_list_append mt_append (pv 9) (pa_cons (pe_heard (t := fun E_ => tCall (spTellable K C cB cT) [] E_ (tCons (tLst (tCons (tC .non) tNil)) tNil)) HF LA T hr12 (by rfl) rfl (LamX.lamS_by (sc := defScope sRF) (by decide +kernel)) rfl (fun _ _ _ _ _ => rfl) (fun A_ outer_ s_ H_ E_ f_ c_ hr_ => pe_call GTo (hr_.mono (by decide)) (by rfl) gTo kTo bTo .nil (passes_call (takes_of rfl rfl rfl rfl) fun _ _ _ _ z => z) (pa_cons (pe_lst (pa_cons pe_non pa_nil)) pa_nil))) pa_nil)))
(pss_cons (ps_if (pt_cmpR (op_neD hr.units) (pv 9) (pe_lst (pa_cons (pe_tup (pa_cons pe_str (pa_cons pe_str pa_nil))) (pa_cons (pe_tup (pa_cons pe_str (pa_cons pe_str pa_nil))) (pa_cons (pe_tup (pa_cons pe_str (pa_cons pe_str pa_nil))) (pa_cons (pe_tup (pa_cons pe_str (pa_cons pe_str pa_nil))) (pa_cons (pe_tup (pa_cons pe_str (pa_cons pe_str pa_nil))) pa_nil)))))) (nomark _))
(pss_one (ps_ret pe_bl))
pss_nil)
(pss_cons (ps_asg (pe_call GN hr10 (by rfl) gN kN bN .nil pass0 (pa_cons (pv 0) pa_nil)) (pg_tup rfl (pgs_cons (pg_name (i := 10) scRF.nd rfl (Or.inr rfl)) (pgs_cons (pg_name (i := 11) scRF.nd rfl (Or.inl rfl)) pgs_nil))))
(pss_cons (ps_if (pt_cmpR (op_neD hr.units) (pe_lc (own := [("at", 6)]) (g := gName 6) (tt := tYes) (by rfl) scRF.nd (pi_range1 (by rfl) T.range (pa_cons pe_int pa_nil)) (blkOk_by (own := [("at", 6)]) (N := ["well", "rows", "made", "mine", "row", "odd", "at", "one", "other", "heard", "some", "dues"]) (sc := defScope sRF) (by decide +kernel)) (fun _ _ _ _ _ => pg_name (i := 6) scRF.nd rfl (Or.inr rfl)) (fun _ _ _ _ _ => pts_nil) (fun _ _ _ _ _ => pe_heard (t := fun E_ => tCall (spTellable K C cB cT) [] E_ (tCons (tOp (rIx K) (tVar 10) (tVar 6)) tNil)) HF LA T hr12 (by rfl) rfl (LamX.lamS_by (by rfl)) rfl (fun _ _ _ _ _ => rfl) (fun A_ outer_ s_ H_ E_ f_ c_ hr_ => pe_call GTo (hr_.mono (by decide)) (by rfl) gTo kTo bTo .nil (passes_call (takes_of rfl rfl rfl rfl) fun _ _ _ _ z => z) (pa_cons (pe_ix (ix_seqK K) (pv 10) (pv 6) (fun _ _ => rfl)) pa_nil)))) (pv 11) (nomark _))
(pss_one (ps_ret pe_bl))
pss_nil)
(pss_one (ps_ret (pe_cmpR (op_eqD hr.units) (pe_lc (own := [("at", 6)]) (g := gName 6) (tt := tYes) (by rfl) scRF.nd (pi_range1 (by rfl) T.range (pa_cons pe_int pa_nil)) (blkOk_by (own := [("at", 6)]) (N := ["well", "rows", "made", "mine", "row", "odd", "at", "one", "other", "heard", "some", "dues"]) (sc := defScope sRF) (by decide +kernel)) (fun _ _ _ _ _ => pg_name (i := 6) scRF.nd rfl (Or.inr rfl)) (fun _ _ _ _ _ => pts_nil) (fun _ _ _ _ _ => pe_heard (t := fun E_ => tCall (spSurely K C cB cT cC) [] E_ (tCons (tOp (rIx K) (tVar 10) (tVar 6)) (tCons (tC .non) (tCons (tC .non) tNil)))) HF LA T hr12 (by rfl) rfl (LamX.lamS_by (by rfl)) rfl (fun _ _ _ _ _ => rfl) (fun A_ outer_ s_ H_ E_ f_ c_ hr_ => pe_call GSo (hr_.mono (by decide)) (by rfl) gSo kSo bSo .nil (passes_call (takes_of rfl rfl rfl rfl) fun _ _ _ _ z => z) (pa_cons (pe_ix (ix_seqK K) (pv 10) (pv 6) (fun _ _ => rfl)) (pa_cons pe_non (pa_cons pe_non pa_nil)))))) (pv 11) (nomark _))))))))))))))), ?_⟩
    obtain ⟨ps, ha, lp, hp⟩ := id hh
    refine ⟨.ref a, rfl, a, rfl, ⟨_, SqL.of ha⟩, fun M hM0 => made_lc hh ok (by omega) hs hM0 (fun _ => rfl) (fun _ => rfl) fun ms H1 am hM s1 => ?_⟩
    refine ⟨.ref a, rfl, a, rs, rfl, hh.mono s1, by omega, ok, nb, fun MI H2 s2 hMI => ?_⟩
    refine ⟨by show 2 ≤ sizeLine; decide, fun t0 ht0 => ⟨t0, _, rfl, SqT.of upd_same, rfl, _, _, rfl, _, _, rfl, rfl, ?_⟩⟩
    have s3 := s2.trans (same_new (o := .tup [.ref M, .ref MI]) ht0)
    have sH := s1.trans s3
    have am3 := ask_mono s3 am
    have hM3 := s3 _ _ hM
    have hMI3 := same_new (o := .tup [.ref M, .ref MI]) ht0 _ _ hMI
    generalize upd H2 t0 (.tup [.ref M, .ref MI]) = HA at s3 sH am3 hM3 hMI3 ⊢
    have penA := pen.mono sH (Nat.le_refl _)
    have tabsA := tabs_same tabs sH
    have ha3 := sH _ _ ha
    have psl : (ps.map V.ref).length = rs.length := by rw [List.length_map, lp]
    have nMA := (pen.nn hM0).1
    have tH3 : ∀ {x : Addr}, HA x = none → x ≠ p := fun h => (penA.nn h).1
    refine ⟨1, rfl, .ref a, rfl, .ref a, rs.length, rfl, .inl ⟨_, SqL.of ha3, psl.symm⟩, by show 1 ≤ sizeLine; decide, fun T5 hT5 => ⟨by show 1 ≤ sizeLine; decide, fun L6 hL6 => ⟨by show 8 ≤ sizeLine; decide, fun L8 hL8 => ?_⟩⟩⟩
    have nT5 := tH3 hT5
    have z1 := same_new (o := .tup [.int 0]) hT5
    have fT5 : upd HA T5 (.tup [.int 0]) T5 = some (.tup [.int 0]) := upd_same
    generalize upd HA T5 (.tup [.int 0]) = G1 at z1 fT5 hL6 hL8 ⊢
    have nL6 := ((penA.mono z1 (Nat.le_refl _)).nn hL6).1
    have z2 := same_new (o := .lst [.int 0]) hL6
    have fL6 : upd G1 L6 (.lst [.int 0]) L6 = some (.lst [.int 0]) := upd_same
    generalize upd G1 L6 (.lst [.int 0]) = G2 at z2 fL6 hL8 ⊢
    have z3 := same_new (o := .lst [.non, .int (-1), .int rs.length, .str "0", .ref T5, .ref L6, .bl true, .bl false]) hL8
    have fL8 : upd G2 L8 (.lst [.non, .int (-1), .int rs.length, .str "0", .ref T5, .ref L6, .bl true, .bl false]) L8 = some (.lst [.non, .int (-1), .int rs.length, .str "0", .ref T5, .ref L6, .bl true, .bl false]) := upd_same
    generalize upd G2 L8 (.lst [.non, .int (-1), .int rs.length, .str "0", .ref T5, .ref L6, .bl true, .bl false]) = G3 at z3 fL8 ⊢
    have zA := z1.trans (z2.trans z3)
    have gT5 := (z2.trans z3) _ _ fT5
    have gL6 := z3 _ _ fL6
    refine ⟨.ref a, rfl, .ref a, rs.length, rfl, .inl ⟨_, SqL.of (zA _ _ ha3), psl.symm⟩, (rs.length : Int), rfl, by omega, by omega, fun D1 hD1 => ?_⟩
    refine lc_it (walk_range (lo := 0) (n := rs.length)) (fun i H' => ∃ xs, H' D1 = some (.lst xs) ∧ xs.length ≤ i ∧ (∀ x ∈ xs, ∃ k : Nat, x = .int k ∧ isPartD rs (.int k) = false) ∧ Same G3 H') ⟨[], upd_same, Nat.zero_le _, fun x m => (by cases m), same_new hD1⟩ (fun _ _ _ _ => True.intro) ?_ ?_
    · rintro i x H3 H4 hi ⟨xs, fD, lx, px, s4⟩ ⟨rfl, hx⟩
      have ex : x = .int (i : Int) := by
        rw [hx]
        show V.int (0 + (i : Int)) = _
        rw [Int.zero_add]
      subst ex
      refine ⟨rfl, .int i, rfl, .ref MI, rfl, MI, _, rfl, .inl (SqL.of (s4 _ _ (zA _ _ hMI3))), rfl, nats_flat _, _, rfl, ?_⟩
      rw [if_pos rfl, in_parts]
      cases c : (partsOf rs).any fun (k : Nat) => decide ((k : Int) = (i : Int)) with
      | true => exact iteF' ⟨xs, fD, by omega, px, s4⟩
      | false =>
        refine iteT' ⟨.int i, rfl, xs, fD, Nat.lt_of_le_of_lt (show xs.length ≤ 6 by omega) (by decide), xs ++ [.int i], upd_same, by rw [List.length_append, List.length_singleton]; omega, fun x m => ?_, fun b o e => ?_⟩
        · rcases List.mem_append.mp m with m | m
          · exact px x m
          · exact ⟨i, List.mem_singleton.mp m, c⟩
        · rw [upd_ne (ne_of_none e hD1)]
          exact s4 b o e
    rintro H4 ⟨xs, fD1, lx, px, s4⟩
    refine ⟨L8, D1, _, _, rfl, rfl, s4 _ _ fL8, fD1, Nat.le_trans (show 8 + xs.length ≤ 14 by omega) (by decide), fun OL hOL => nx_go ?_⟩
    have sB := zA.trans (s4.trans (same_new (o := .lst ([.non, .int (-1), .int rs.length, .str "0", .ref T5, .ref L6, .bl true, .bl false] ++ xs)) hOL))
    have fOL : upd H4 OL (.lst ([.non, .int (-1), .int rs.length, .str "0", .ref T5, .ref L6, .bl true, .bl false] ++ xs)) OL = some (.lst ([.non, .int (-1), .int rs.length, .str "0", .ref T5, .ref L6, .bl true, .bl false] ++ xs)) := upd_same
    have gT5 := (s4.trans (same_new (o := .lst ([.non, .int (-1), .int rs.length, .str "0", .ref T5, .ref L6, .bl true, .bl false] ++ xs)) hOL)) _ _ gT5
    have gL6 := (s4.trans (same_new (o := .lst ([.non, .int (-1), .int rs.length, .str "0", .ref T5, .ref L6, .bl true, .bl false] ++ xs)) hOL)) _ _ gL6
    have nOL := ((penA.mono (zA.trans s4) (Nat.le_refl _)).nn hOL).1
    generalize upd H4 OL (.lst ([.non, .int (-1), .int rs.length, .str "0", .ref T5, .ref L6, .bl true, .bl false] ++ xs)) = HB at sB fOL gT5 gL6 ⊢
    have lOL : ([.non, .int (-1), .int rs.length, .str "0", .ref T5, .ref L6, .bl true, .bl false] ++ xs : List V).length = 8 + xs.length := by rw [List.length_append]; rfl
    have penB := penA.mono sB (Nat.le_refl _)
    have odd : ∀ x ∈ ([.non, .int (-1), .int rs.length, .str "0", .ref T5, .ref L6, .bl true, .bl false] ++ xs : List V), ∃ d, (∀ H', KN p HB H' → Dv K H' x d) ∧ isPartD rs d = false := fun x m => by
      rcases List.mem_append.mp m with m | m
      · rcases List.mem_cons.mp m with rfl | m
        · exact ⟨.none, fun _ _ => .non, rfl⟩
        rcases List.mem_cons.mp m with rfl | m
        · exact ⟨.int (-1), fun _ _ => .int _, part_no fun k _ => by omega⟩
        rcases List.mem_cons.mp m with rfl | m
        · exact ⟨.int rs.length, fun _ _ => .int _, part_no fun k mk => by have := parts_lt mk; omega⟩
        rcases List.mem_cons.mp m with rfl | m
        · exact ⟨.str "0", fun _ _ => .str _, rfl⟩
        rcases List.mem_cons.mp m with rfl | m
        · exact ⟨.tuple [.int 0], fun H' k => .tup (SqT.of (k _ _ nT5 gT5 fun _ y => nomatch y)) (.cons (.int _) .nil), rfl⟩
        rcases List.mem_cons.mp m with rfl | m
        · exact ⟨.list [.int 0], fun H' k => .lst (SqL.of (k _ _ nL6 gL6 fun _ y => nomatch y)) (.cons (.int _) .nil), rfl⟩
        rcases List.mem_cons.mp m with rfl | m
        · exact ⟨.bool true, fun _ _ => .bl _, rfl⟩
        rcases List.mem_cons.mp m with rfl | m
        · exact ⟨.bool false, fun _ _ => .bl _, rfl⟩
        · cases m
      · obtain ⟨k, rfl, hk⟩ := px x m
        exact ⟨.int k, fun _ _ => .int _, hk⟩
    generalize ([.non, .int (-1), .int rs.length, .str "0", .ref T5, .ref L6, .bl true, .bl false] ++ xs : List V) = ol at fOL lOL odd ⊢
    clear z1 z2 z3 fT5 fL6 fL8 gT5 gL6 fD1 px s4 zA hT5 hL6 hL8 hD1 hOL nT5 nL6
    refine ⟨.ref p, rfl, .ref OL, rfl, p, c, OL, cells, _, _, rfl, penB, by omega, fOL, nOL, by omega, by omega, fun j1 v1 H3 e1 pen3 kp3 => ⟨.ref p, rfl, .ref OL, rfl, p, c, OL, cells, _, _, rfl, pen3, by omega, kp3 _ _ nOL fOL, nOL, by omega, by omega, fun j2 v2 H4 e2 pen4 kp4 => ⟨by show 2 ≤ sizeLine; decide, fun t1 ht1 => ⟨t1, _, rfl, SqT.of upd_same, rfl, _, _, rfl, _, _, rfl, rfl, ?_⟩⟩⟩⟩
    have k5 : KN p HB (upd H4 t1 (.tup [v1, v2])) := (KN.kept (kp3.trans kp4)).trans (KN.same (same_new ht1))
    have pen5 := pen4.mono (same_new (o := .tup [v1, v2]) ht1) (Nat.le_refl _)
    have tabs5 : LamX.Tabs T0 (upd H4 t1 (.tup [v1, v2])) := tabs_same (tabs_kept (tabs_kept (tabs_same tabsA sB) penB kp3) pen3 kp4) (same_new ht1)
    obtain ⟨d1, g1, no1⟩ := odd v1 (List.mem_of_getElem? e1)
    obtain ⟨d2, g2, no2⟩ := odd v2 (List.mem_of_getElem? e2)
    generalize upd H4 t1 (.tup [v1, v2]) = H5 at k5 pen5 tabs5 ⊢
    replace g1 : ∀ H', KN p H5 H' → Dv K H' v1 d1 := fun H' k => g1 H' (k5.trans k)
    replace g2 : ∀ H', KN p H5 H' → Dv K H' v2 d2 := fun H' k => g2 H' (k5.trans k)
    have kA5 : KN p HA H5 := (KN.same sB).trans k5
    have hist : ∀ H', KN p H5 H' → Hist K C H' M rs := fun H' k => ⟨ms, .inl (SqL.of ((kA5.trans k) _ _ nMA hM3 fun _ y => nomatch y)), am3.1, fun i q r e1 e2 => by
      obtain ⟨dx, hx⟩ := am3.2 i q r e1 e2
      exact ⟨dx, (kA5.trans k) _ _ (penA.ne_of hx fun _ y => nomatch y) hx fun _ y => nomatch y⟩⟩
    have nMI : MI ≠ p := fun z => by
      obtain ⟨x, g, h1, _⟩ := penA.ex
      rw [z, h1] at hMI3
      have h2 := HO.lst.inj (Option.some.inj hMI3)
      unfold nats at h2
      cases hpo : partsOf rs with
      | nil => rw [hpo] at h2; cases h2
      | cons _ _ => rw [hpo] at h2; cases h2
    have gMI : ∀ H', KN p H5 H' → H' MI = some (.lst (nats (partsOf rs))) := fun H' k => (kA5.trans k) _ _ nMI hMI3 fun _ y => nomatch y
    have kBase : KN p H H5 := (KN.same sH).trans kA5
    clear kp3 kp4 pen3 pen4 e1 e2 odd tabsA penA am3 hM3 hMI3 ht1 fOL penB sB k5 kA5 s1 s2 s3 hM hMI am ht0
    -- the first
    refine ⟨tabs5, fun H7 x7 T7 H8 Q' s8 k => ⟨.ref M, rfl, v1, rfl, v2, rfl, ?_⟩⟩
    dsimp only [tNil]
    have k8 := (KN.ext (p := p) x7).trans (KN.same s8)
    refine sure_one (hist _ k8) (by omega) ok nb (g1 _ k8) (g2 _ k8) no1 (heard_ask fun t H9 s9 ht => ⟨by show 1 ≤ sizeLine; decide, fun HD hHD => nx_go ?_⟩)
    have k9 := k8.trans (KN.same s9)
    have pen9 := (pen_ext pen5 x7).mono (s8.trans s9) (Nat.le_refl _)
    have nD := pen9.nn hHD
    have r1 : RS T0 p c cells (n + 3) H9 HD ["one"] (upd H9 HD (.lst [.ref t])) := by
      have sn := same_new (o := .lst [.ref t]) hHD
      exact ⟨⟨[t], upd_same, .cons (sn _ _ ht) .nil⟩, KN.same sn, (pen9.mono sn (Nat.le_refl _)).more (by omega), tabs_same T7 (s8.trans (s9.trans sn))⟩
    generalize upd H9 HD (.lst [.ref t]) = H10 at r1 ⊢
    clear ht s8 s9 x7 T7 k8 k tabs5 pen5 pen9
    -- the second
    refine drop_of (RS T0 p c cells (n + 4) H9 HD ["one", "other"]) (fun Qz z => ?_) (fun H11 r2 => ?_)
    · obtain ⟨⟨ts1, hl1, hp1⟩, kn1, pe1, tb1⟩ := r1
      have kk1 := k9.trans kn1
      have l1 : (ts1.map V.ref).length < sizeLine := by rw [List.length_map, Paired.length hp1]; decide
      refine ⟨.ref HD, rfl, .inl ⟨rfl, _, SqL.of hl1⟩, .ref MI, rfl, Nat.zero_le _, fun l hl0 => ?_⟩
      have sl := same_new (o := .lst []) hl0
      refine ⟨_, _, Dp.lst (SqL.of (sl _ _ (nats_ints _ ▸ gMI _ kk1))) (dp_ints _), Dp.lst (SqL.of upd_same) .nil, shaped_ints _, by decide +kernel, _, rfl, ?_⟩
      rw [eqv_nil]
      have tb1' := tabs_same tb1 sl
      have kl := KN.same (p := p) sl
      have pe1' := pe1.mono sl (Nat.le_refl _)
      generalize upd H10 l (.lst []) = H11 at kl tb1' pe1' ⊢
      have fin : ∀ t H12, KN p H10 H12 → PenAt H12 p c cells (n + 4) → LamX.Tabs T0 H12 → H12 t = some (.tup [.str "ask", .str "other"]) → rAppend (.ref HD) [.ref t] H12 Qz := fun t H12 k pe tb ht => ⟨HD, _, _, rfl, rfl, k _ _ nD.1 hl1 (fun _ y => nomatch y), l1, z _ _ (RS.push nD hHD hl1 hp1 kn1 (pe1.more (by omega)) k pe tb ht)⟩
      cases hpe : ((partsOf rs).map fun (i : Nat) => (i : Int)).isEmpty with
      | true => exact iteF' ⟨by show 2 ≤ sizeLine; decide, fun t ht => fin t _ (kl.trans (KN.same (same_new ht))) ((pe1'.mono (same_new ht) (Nat.le_refl _)).more (by omega)) (tabs_same tb1' (same_new ht)) upd_same⟩
      | false =>
        refine iteT' ⟨tb1', fun H7 x7 T7 H8 Q' s8 k => ⟨.ref M, rfl, .ref p, rfl, .ref MI, rfl, ?_⟩⟩
        have k8 := kl.trans ((KN.ext (p := p) x7).trans (KN.same s8))
        have pe8 := (pen_ext pe1' x7).mono s8 (Nat.le_refl _)
        have np : 0 < (partsOf rs).length := by
          cases hpo : partsOf rs with
          | nil => rw [hpo] at hpe; cases hpe
          | cons _ _ => exact Nat.succ_pos _
        refine ⟨p, c, MI, cells, _, _, rfl, pe8, by omega, gMI _ (kk1.trans k8), nMI, by unfold nats; rw [List.length_map]; exact np, by
          unfold nats
          rw [List.length_map]
          have := parts_le rs
          omega, fun i x HZ ex penZ kpZ => ⟨v2, rfl, ?_⟩⟩
        dsimp only [tNil]
        have k9' := k8.trans (KN.kept kpZ)
        obtain ⟨j, rfl, mj⟩ : ∃ j : Nat, x = .int j ∧ j ∈ partsOf rs := by
          unfold nats at ex
          rw [List.getElem?_map] at ex
          obtain ⟨j, hj, rfl⟩ := Option.map_eq_some_iff.mp ex
          exact ⟨j, rfl, List.mem_of_getElem? hj⟩
        refine sure_other (hist _ (kk1.trans k9')) (by omega) ok nb (.int _) (g2 _ (kk1.trans k9')) (List.any_eq_true.mpr ⟨j, mj, decide_eq_true rfl⟩) no2 (heard_ask fun t HY sY ht => ?_)
        exact fin t HY (k9'.trans (KN.same sY)) ((penZ.mono sY (Nat.le_refl _)).more (by omega)) (tabs_same (tabs_kept (tabs_same T7 s8) pe8 kpZ) sY) ht
    clear r1
    -- by keywords
    refine drop_of (RS T0 p c cells (n + 4) H9 HD ["one", "other", "one"]) (fun Qz z => ?_) (fun H12 r3 => ?_)
    · obtain ⟨⟨ts1, hl1, hp1⟩, kn1, pe1, tb1⟩ := r2
      have kk1 := k9.trans kn1
      have l1 : (ts1.map V.ref).length < sizeLine := by rw [List.length_map, Paired.length hp1]; decide
      refine ⟨.ref HD, rfl, .inl ⟨rfl, _, SqL.of hl1⟩, tb1, fun H7 x7 T7 H8 Q' s8 k => ⟨.ref M, rfl, v2, rfl, v1, rfl, ?_⟩⟩
      have k8 := (KN.ext (p := p) x7).trans (KN.same s8)
      refine sure_one (hist _ (kk1.trans k8)) (by omega) ok nb (g1 _ (kk1.trans k8)) (g2 _ (kk1.trans k8)) no1 (heard_ask fun t HY sY ht => ?_)
      exact ⟨HD, _, _, rfl, rfl, (k8.trans (KN.same sY)) _ _ nD.1 hl1 (fun _ y => nomatch y), l1, z _ _ (RS.push nD hHD hl1 hp1 kn1 pe1 (k8.trans (KN.same sY)) ((pen_ext pe1 x7).mono (s8.trans sY) (Nat.le_refl _)) (tabs_same T7 (s8.trans sY)) ht)⟩
    clear r2
    refine drop_of (RS T0 p c cells (n + 4) H9 HD ["one", "other", "one", "asks"]) (fun Qz z => ?_) (fun H13 r4 => ?_)
    · obtain ⟨⟨ts1, hl1, hp1⟩, kn1, pe1, tb1⟩ := r3
      have kk1 := k9.trans kn1
      have l1 : (ts1.map V.ref).length < sizeLine := by rw [List.length_map, Paired.length hp1]; decide
      refine ⟨.ref HD, rfl, .inl ⟨rfl, _, SqL.of hl1⟩, tb1, fun H7 x7 T7 H8 Q' s8 k => ⟨v1, rfl, v2, rfl, ?_⟩⟩
      have k8 := (KN.ext (p := p) x7).trans (KN.same s8)
      refine ⟨.non, v1, v2, d1, d2, rfl, g1 _ (kk1.trans k8), g2 _ (kk1.trans k8), .inl ⟨⟨.type "NoneType", .base .non, (NL.ts "NoneType" (by simp)).1, (NL.ts "NoneType" (by simp)).2⟩, heard_ask fun t HY sY ht => ?_⟩⟩
      exact ⟨HD, _, _, rfl, rfl, (k8.trans (KN.same sY)) _ _ nD.1 hl1 (fun _ y => nomatch y), l1, z _ _ (RS.push nD hHD hl1 hp1 kn1 pe1 (k8.trans (KN.same sY)) ((pen_ext pe1 x7).mono (s8.trans sY) (Nat.le_refl _)) (tabs_same T7 (s8.trans sY)) ht)⟩
    clear r3
    refine drop_of (RS T0 p c cells (n + 4) H9 HD rfW) (fun Qz z => ?_) (fun H14 r5 => ?_)
    · obtain ⟨⟨ts1, hl1, hp1⟩, kn1, pe1, tb1⟩ := r4
      have l1 : (ts1.map V.ref).length < sizeLine := by rw [List.length_map, Paired.length hp1]; decide
      refine ⟨.ref HD, rfl, .inl ⟨rfl, _, SqL.of hl1⟩, tb1, fun H7 x7 T7 H8 Q' s8 k => ⟨by show 1 ≤ sizeLine; decide, fun LN hLN => ?_⟩⟩
      have sn := same_new (o := .lst [.non]) hLN
      have k8 := (KN.ext (p := p) x7).trans (KN.same (s8.trans sn))
      refine ⟨.ref LN, rfl, looked_bad (badh_one (.inl (SqL.of upd_same)) (.base .non) (A.no "NoneType" (by simp))) (heard_ask fun t HY sY ht => ?_)⟩
      exact ⟨HD, _, _, rfl, rfl, (k8.trans (KN.same sY)) _ _ nD.1 hl1 (fun _ y => nomatch y), l1, z _ _ (RS.push nD hHD hl1 hp1 kn1 pe1 (k8.trans (KN.same sY)) ((pen_ext pe1 x7).mono (s8.trans (sn.trans sY)) (Nat.le_refl _)) (tabs_same T7 (s8.trans (sn.trans sY))) ht)⟩
    clear r4
    obtain ⟨⟨ts1, hl1, hp1⟩, kn1, pe1, tb1⟩ := r5
    have kk1 := k9.trans kn1
    refine ifs_go ⟨.ref HD, rfl, by show 2 ≤ sizeLine; decide, fun a1 q1 => ⟨by show 2 ≤ sizeLine; decide, fun a2 q2 => ⟨by show 2 ≤ sizeLine; decide, fun a3 q3 => ⟨by show 2 ≤ sizeLine; decide, fun a4 q4 => ⟨by show 2 ≤ sizeLine; decide, fun a5 q5 => ⟨by show 5 ≤ sizeLine; decide, fun a6 q6 => ?_⟩⟩⟩⟩⟩⟩
    have z1 := same_new (o := .tup [.str "ask", .str "one"]) q1
    have f1 : upd H14 a1 (.tup [.str "ask", .str "one"]) a1 = some (.tup [.str "ask", .str "one"]) := upd_same
    generalize upd H14 a1 (.tup [.str "ask", .str "one"]) = K1 at z1 f1 q2 q3 q4 q5 q6 ⊢
    have z2 := same_new (o := .tup [.str "ask", .str "other"]) q2
    have f2 : upd K1 a2 (.tup [.str "ask", .str "other"]) a2 = some (.tup [.str "ask", .str "other"]) := upd_same
    generalize upd K1 a2 (.tup [.str "ask", .str "other"]) = K2 at z2 f2 q3 q4 q5 q6 ⊢
    have z3 := same_new (o := .tup [.str "ask", .str "one"]) q3
    have f3 : upd K2 a3 (.tup [.str "ask", .str "one"]) a3 = some (.tup [.str "ask", .str "one"]) := upd_same
    generalize upd K2 a3 (.tup [.str "ask", .str "one"]) = K3 at z3 f3 q4 q5 q6 ⊢
    have z4 := same_new (o := .tup [.str "ask", .str "asks"]) q4
    have f4 : upd K3 a4 (.tup [.str "ask", .str "asks"]) a4 = some (.tup [.str "ask", .str "asks"]) := upd_same
    generalize upd K3 a4 (.tup [.str "ask", .str "asks"]) = K4 at z4 f4 q5 q6 ⊢
    have z5 := same_new (o := .tup [.str "ask", .str "asks"]) q5
    have f5 : upd K4 a5 (.tup [.str "ask", .str "asks"]) a5 = some (.tup [.str "ask", .str "asks"]) := upd_same
    generalize upd K4 a5 (.tup [.str "ask", .str "asks"]) = K5 at z5 f5 q6 ⊢
    have z6 := same_new (o := .lst [.ref a1, .ref a2, .ref a3, .ref a4, .ref a5]) q6
    have f6 : upd K5 a6 (.lst [.ref a1, .ref a2, .ref a3, .ref a4, .ref a5]) a6 = some (.lst [.ref a1, .ref a2, .ref a3, .ref a4, .ref a5]) := upd_same
    generalize upd K5 a6 (.lst [.ref a1, .ref a2, .ref a3, .ref a4, .ref a5]) = K6 at z6 f6 ⊢
    have y5 := z5.trans z6
    have y4 := z4.trans y5
    have y3 := z3.trans y4
    have y2 := z2.trans y3
    have yy := z1.trans y2
    refine ⟨asksD rfW, asksD rfW, .lst (SqL.of (yy _ _ hl1)) (asks_all (Paired.mapP hp1 fun _ _ e => yy _ _ e)), .lst (SqL.of f6) (asks_all (ts := [a1, a2, a3, a4, a5]) (ws := rfW) (.cons (y2 _ _ f1) (.cons (y3 _ _ f2) (.cons (y4 _ _ f3) (.cons (y5 _ _ f4) (.cons (z6 _ _ f5) .nil)))))), rfW_ok.1, rfW_ok.1, _, rfl, ?_⟩
    rw [rfW_ok.2]
    have pe6 := pe1.mono yy (Nat.le_refl _)
    have tb6 := tabs_same tb1 yy
    have kk6 := kk1.trans (KN.same yy)
    clear z1 z2 z3 z4 z5 z6 f1 f2 f3 f4 f5 f6 y5 y4 y3 y2 yy q1 q2 q3 q4 q5 q6 hl1 hp1 kn1 pe1 tb1 kk1
    refine iteF' ⟨.ref p, rfl, ?_⟩
    dsimp only [tNil]
    refine ⟨p, c, cells, _, rfl, pe6, by omega, fun t S D L1 L2 e1 e2 e3 odd at_ tv ps1 ps2 HN penN kpN ht hS hD he1 he2 he3 od hL1 aL1 hL2 aL2 tv0 a5 fb => ⟨t, _, rfl, SqT.of ht, rfl, _, _, rfl, _, _, rfl, rfl, ?_⟩⟩
    have tbN := tabs_kept tb6 pe6 kpN
    have kN := (kBase.trans kk6).trans (KN.kept kpN)
    have penN := penN.more (show n + 4 + 3 ≤ n + 10 by omega)
    clear tb6 pe6 kk6 kpN
    have vs3 : ∀ i : Nat, i < 3 → ∃ v, atI ([odd, .ref L1, .ref L2] : List V) (i : Int) = some v ∧ ∀ Hx, LamX.ExtN HN Hx → ∀ (Qx : VK) (go : Addr → List Row → Prop), (∀ t H2 xs, (duesV at_)[i]? = some xs → Same Hx H2 → H2 t = some (.tup xs) → Qx (.ref t) H2) → Looked K C cB cT v Hx (HeardE cB cT cC Qx) go := fun i hi => by
      have asx : ∀ {ps : List Addr} {rows : List Row} {L : Addr} {Hx : Hp}, HN L = some (.lst (ps.map V.ref)) → AsksAt C HN ps rows → LamX.ExtN HN Hx → Hist K C Hx L rows := fun hL aL ex => ⟨_, .inl (SqL.of (ex _ _ hL fun _ y => nomatch y)), aL.1, fun i q r e1 e2 => by
        obtain ⟨dx, hx⟩ := aL.2 i q r e1 e2
        exact ⟨dx, ex _ _ hx fun _ y => nomatch y⟩⟩
      rcases i with _ | _ | _ | i
      · exact ⟨odd, at_nat (i := 0) rfl, fun Hx ex Qx go k => looked_bad (od _ ex) (heard_ask fun t H2 s2 ht => k t H2 _ rfl s2 ht)⟩
      · exact ⟨.ref L1, at_nat (i := 1) rfl, fun Hx ex Qx go k => looked_many (asx hL1 aL1 ex) (by rw [List.length_replicate]; decide) (by rw [List.length_replicate]; decide) (fun r m => by rw [List.eq_of_mem_replicate m]; exact soR_ok) (heard_many fun t H2 s2 ht => k t H2 _ rfl s2 ht)⟩
      · exact ⟨.ref L2, at_nat (i := 2) rfl, fun Hx ex Qx go k => looked_told (asx hL2 aL2 ex) (by rw [rowsN_len]; omega) (rowsN_ok tv0) fb (heard_ask fun t H2 s2 ht => k t H2 _ rfl s2 ht)⟩
      · omega
    clear od hL1 aL1 hL2 aL2 fb
    refine st_go [some (.ref p), some (.ref a), some (.ref M), some (.ref MI), none, some (.ref OL), none, some v1, some v2, some (.ref HD), some (.ref S), some (.ref D)] rfl ?_
    have comp : ∀ (Hb : Hp) (tE : XK → TE) (Qc : VK), LamX.ExtN HN Hb → LamX.Tabs T0 Hb → (∀ i : Nat, i < 3 → ∀ Hx, LamX.ExtN HN Hx → ∀ Qx Q' : VK, (∀ t H2 xs, (duesV at_)[i]? = some xs → Same Hx H2 → H2 t = some (.tup xs) → Qx (.ref t) H2) → tE (HeardE cB cT cC Qx) [some (.ref p), some (.ref a), some (.ref M), some (.ref MI), none, some (.ref OL), some (.int i), some v1, some v2, some (.ref HD), some (.ref S), some (.ref D)] Hx Q') →
        (∀ Dx ts Hy, LamX.ExtN HN Hy → LamX.Tabs T0 Hy → Hy Dx = some (.lst (ts.map V.ref)) → Paired (fun t (xs : List V) => Hy t = some (.tup xs)) ts (duesV at_) → Qc (.ref Dx) Hy) →
        tLc (iRng1 (tCons (tC (.int 3)) tNil)) (gName 6) tYes (LamX.tLam T0 (TTh cB cT cC) tE) [6] [some (.ref p), some (.ref a), some (.ref M), some (.ref MI), none, some (.ref OL), none, some v1, some v2, some (.ref HD), some (.ref S), some (.ref D)] Hb Qc := fun Hb tE Qc eb tb he k => by
      refine ⟨3, rfl, by decide, by decide, fun D6 hD6 => ?_⟩
      refine lc_it (walk_range (lo := 0) (n := 3)) (fun i H' => ∃ ts : List Addr, H' D6 = some (.lst (ts.map V.ref)) ∧ Paired (fun t (xs : List V) => H' t = some (.tup xs)) ts ((duesV at_).take i) ∧ LamX.ExtN Hb H' ∧ LamX.Tabs T0 H') ⟨[], upd_same, .nil, LamX.ExtN.of (same_new hD6), tabs_same tb (same_new hD6)⟩ (fun _ _ _ _ => True.intro) ?_ ?_
      · rintro i x H3 H4 hi ⟨ts, fD, pt, e4, tb4⟩ ⟨rfl, hx⟩
        have ex : x = .int (i : Int) := by
          rw [hx]
          show V.int (0 + (i : Int)) = _
          rw [Int.zero_add]
        subst ex
        refine ⟨rfl, yes_go ⟨tb4, fun H7 x7 T7 H8 Q' s8 kk => ?_⟩⟩
        have e8 := x7.trans (LamX.ExtN.of s8)
        refine he i hi H8 (eb.trans (e4.trans e8)) _ Q' fun t H2 xs exs s2 ht => ?_
        have e2 := e8.trans (LamX.ExtN.of s2)
        have fD2 := e2 _ _ fD fun _ y => nomatch y
        have keep : ∀ q x, H2 q = some (.tup x) → upd H2 D6 (.lst (ts.map V.ref ++ [.ref t])) q = some (.tup x) := fun q x e => by
          rw [upd_ne (fun z => by rw [z, fD2] at e; cases e)]
          exact e
        have tl : ts.length = i := by
          rw [Paired.length pt, List.length_take]
          show min i 3 = i
          omega
        refine ⟨_, fD2, by rw [List.length_map, tl]; exact Nat.lt_trans hi (by decide), ts ++ [t], by rw [upd_same, List.map_append]; rfl, ?_, fun b o e ne => ?_, tabs_lst (tabs_same T7 (s8.trans s2)) fD2⟩
        · rw [List.take_add_one, exs]
          exact Paired.snoc (Paired.mapP pt fun _ _ e => keep _ _ (e2 _ _ e fun _ y => nomatch y)) (keep _ _ ht)
        · rw [upd_ne (ne_of_none e hD6)]
          exact e2 _ _ (e4 b o e ne) ne
      · rintro H4 ⟨ts, fD, pt, e4, tb4⟩
        rw [List.take_of_length_le (show (duesV at_).length ≤ 3 by exact Nat.le_refl 3)] at pt
        exact k D6 ts H4 (eb.trans e4) tb4 fD pt
    obtain ⟨dk1, dk2⟩ := dues_ok a5
    have dueP : ∀ {Hx : Hp}, LamX.ExtN HN Hx → Dp K Hx (.ref D) (duesD at_) := fun ex => dues_dp (ts := [e1, e2, e3]) (ex _ _ hD fun _ y => nomatch y) (.cons (ex _ _ he1 fun _ y => nomatch y) (.cons (ex _ _ he2 fun _ y => nomatch y) (.cons (ex _ _ he3 fun _ y => nomatch y) .nil)))
    refine ifs_go ?_
    dsimp only [tTest, tOp]
    refine comp HN _ _ (LamX.ExtN.refl _) tbN (fun i hi Hx ex Qx Q' k => ?_) fun Dx ts Hy ey ty fD pt => ⟨.ref D, rfl, duesD at_, duesD at_, dues_dp fD pt, dueP ey, dk1, dk1, _, rfl, ?_⟩
    · obtain ⟨v, av, lk⟩ := vs3 i hi
      exact ⟨.ref S, rfl, .int i, rfl, Sq.ix (.inl (SqL.of (ex _ _ hS fun _ y => nomatch y))) av ⟨v, rfl, lk Hx ex Qx _ k⟩⟩
    rw [dk2]
    refine iteF' ?_
    dsimp only [tNext, tRet, tOp]
    refine comp Hy _ _ ey ty (fun i hi Hx ex Qx Q' k => ?_) fun Dz ts2 Hz ez tz fD2 pt2 => ⟨.ref D, rfl, duesD at_, duesD at_, dues_dp fD2 pt2, dueP ez, dk1, dk1, ?_⟩
    · obtain ⟨v, av, lk⟩ := vs3 i hi
      exact ⟨.ref S, rfl, .int i, rfl, Sq.ix (.inl (SqL.of (ex _ _ hS fun _ y => nomatch y))) av ⟨v, .non, .non, .none, .none, rfl, .non, .non, lk Hx ex Qx _ k⟩⟩
    rw [dk2]
    exact q Hz (pen_ext penN ez) (kN.trans (KN.ext ez)) tz
end
end K36
end

section
set_option Elab.async false
set_option linter.all false
set_option maxRecDepth 100000
set_option maxHeartbeats 4000000
/-! a late get of nothing; lots that are kept of all lots -/
namespace K36
open PySem PySem.Spec PyProof.Rows L2 KZ
section
variable {rs : List Row}
/-- a get of nothing behind an ask of some put's lot: no order -/
theorem late_no (ok : ∀ r ∈ rs, r.Ok) (nb : firstBad rs = none) {i n : Nat} (mi : i ∈ partsOf rs) (mn : n ∈ partsOf rs) (pn : isPutAt rs n = false) (ln : lotI rs n = none) (li : lotI rs i ≠ none) (a : aI rs i n = true) : ¬Orderly rs := fun od => by
  obtain ⟨o, f⟩ := OM.order_iff.mpr ((orderly_iff ok nb).mp od)
  have mem : ∀ {x}, x ∈ partsOf rs → x ∈ o := fun m => (OM.full_perm f).mem_iff.mpr m
  obtain ⟨a0, b0, e0⟩ := List.append_of_mem (mem mn)
  obtain ⟨s1, s2⟩ := f.1.step a0 n b0 e0
  have ne : i ≠ n := fun e => li (by rw [e]; exact ln)
  have ia : i ∈ a0 := by
    by_cases h : i ∈ a0
    · exact h
    · have := s1 i mi h ne
      have this : aI rs i n = false := this
      rw [a] at this
      cases this
  have none0 : OM.lastP (isPutAt rs) none a0 = none := by
    rcases s2 with s2 | s2
    · have s2 : isPutAt rs n = true := s2
      rw [pn] at s2
      cases s2
    · have s2 : lotI rs n = OM.lastP (isPutAt rs) none a0 := s2
      rw [← s2, ln]
  have nop := OM.lastP_none none0
  obtain ⟨a1, b1, e1⟩ := List.append_of_mem ia
  obtain ⟨_, t2⟩ := f.1.step a1 i (b1 ++ n :: b0) (by rw [e0, e1]; simp)
  rcases t2 with t2 | t2
  · have t2 : isPutAt rs i = true := t2
    rw [nop i ia] at t2
    cases t2
  · have t2 : lotI rs i = OM.lastP (isPutAt rs) none a1 := t2
    rw [OM.lastP_no fun x m => nop x (by rw [e1]; exact List.mem_append_left _ m)] at t2
    exact li t2
def lateG (e : Int) : Row := ⟨"b", true, e + 1, some (e + 900), none⟩
theorem late_ok {e : Int} (h : 0 ≤ e) : (lateG e).Ok := row_ok' (by decide +kernel) (by show 0 ≤ e + 1; omega) (fun x z => by cases z; omega) (fun x z => nomatch z)
theorem snoc_ok (ok : ∀ r ∈ rs, r.Ok) {r : Row} (h : r.Ok) : ∀ x ∈ rs ++ [r], x.Ok := fun x m => by
  rcases List.mem_append.mp m with m | m
  · exact ok x m
  · rw [List.mem_singleton.mp m]; exact h
theorem snoc_nb (nb : firstBad rs = none) {r : Row} (h : r.t = none) (told : ∀ (i : Nat) (r : Row) (x : Int), rs[i]? = some r → r.t = some x → ∃ q : Nat, x = q ∧ q < rs.length ∧ isPutAt rs q = true) : firstBad (rs ++ [r]) = none := by
  unfold firstBad
  rw [List.find?_range_eq_none]
  intro n hn
  rw [List.length_append, List.length_singleton] at hn
  by_cases hl : n < rs.length
  · have en : rs[n]? = some rs[n] := List.getElem?_eq_getElem hl
    have e2 : (rs ++ [r])[n]? = some rs[n] := by rw [List.getElem?_append_left hl, en]
    unfold badAt
    rw [e2]
    show (!(match rs[n].t with
      | none => false
      | some j => decide (((rs ++ [r]).length : Int) ≤ j) || (match (rs ++ [r])[j.toNat]? with
        | some r => r.g
        | none => true))) = true
    cases ht : rs[n].t with
    | none => rfl
    | some x =>
      obtain ⟨q, rfl, ql, qp⟩ := told n rs[n] x en ht
      have eq : (rs ++ [r])[((q : Nat) : Int).toNat]? = some rs[q] := by rw [Int.toNat_natCast, List.getElem?_append_left ql]; exact List.getElem?_eq_getElem ql
      show (!(decide (((rs ++ [r]).length : Int) ≤ (q : Int)) || (match (rs ++ [r])[((q : Nat) : Int).toNat]? with
        | some r => r.g
        | none => true))) = true
      rw [eq, decide_eq_false (by rw [List.length_append, List.length_singleton]; omega)]
      rw [put_at (List.getElem?_eq_getElem ql)] at qp
      show (!(false || rs[q].g)) = true
      rw [Bool.false_or]
      exact qp
  · have : n = rs.length := by omega
    subst this
    unfold badAt
    rw [List.getElem?_append_right (Nat.le_refl _), Nat.sub_self]
    show (!(match r.t with
      | none => false
      | some j => decide (((rs ++ [r]).length : Int) ≤ j) || (match (rs ++ [r])[j.toNat]? with
        | some r => r.g
        | none => true))) = true
    rw [h]
    rfl
theorem snoc_get {r : Row} {i : Nat} {s : Row} (h : rs[i]? = some s) : (rs ++ [r])[i]? = some s := by
  rw [List.getElem?_append_left (List.getElem?_eq_some_iff.mp h).1, h]
theorem ended_part {i : Nat} {s : Row} (h : rs[i]? = some s) (e : s.e.isSome = true) : i ∈ partsOf rs := mem_parts.mpr ⟨s, h, by rw [e]; rfl⟩
/-- the law's: which puts, or nothing, can still be told -/
def lotB (rs : List Row) (k : Nat) : Bool := ((keysL (lzOf rs)).filter fun m => !decide (m = some (k : Int)) && decide (Ez rs (some (k : Int)) < Bz rs m)).isEmpty
theorem due_lots (ok : ∀ r ∈ rs, r.Ok) (nb : firstBad rs = none) (od : Orderly rs) (all : ∀ k ∈ putsOf rs, HasL rs (some (k : Int))) {late : Int} (bh : Behind rs late) :
    dueOf rs late = (if ((keysL (lzOf rs)).filter (·.isSome)).isEmpty = true then [none] else []) ++ ((putsOf rs).filter (lotB rs)).map fun (i : Nat) => some (i : Int) := by
  unfold dueOf
  rw [List.filter_cons]
  have h0 : ((!(ordersOf (withL rs late none)).isEmpty) = true) ↔ (((keysL (lzOf rs)).filter (·.isSome)).isEmpty = true) := by
    rw [due_told ok nb bh (fun _ e => (by cases e)), List.isEmpty_iff, List.filter_eq_nil_iff]
    constructor
    · rintro ⟨_, h⟩ m mm c
      have := h m ((key_has ok).mp mm)
      rw [this] at c
      cases c
    · intro h
      refine ⟨od, fun k hk => ?_⟩
      have := h k ((key_has ok).mpr hk)
      cases k with
      | none => rfl
      | some x => exact absurd rfl this
  have h1 : ((putsOf rs).map fun (i : Nat) => some (i : Int)).filter (fun told => !(ordersOf (withL rs late told)).isEmpty) = ((putsOf rs).filter (lotB rs)).map fun (i : Nat) => some (i : Int) := by
    rw [List.filter_map]
    congr 1
    refine List.filter_congr fun k mk => ?_
    show (!(ordersOf (withL rs late (some (k : Int)))).isEmpty) = lotB rs k
    rw [Bool.eq_iff_iff, due_told ok nb bh (put_ok (List.mem_filter.mp mk).2)]
    unfold lotB
    rw [List.isEmpty_iff, List.filter_eq_nil_iff]
    constructor
    · rintro ⟨_, h⟩ m mm c
      rw [Bool.and_eq_true, Bool.not_eq_true', decide_eq_false_iff_not, decide_eq_true_iff] at c
      have := h (all k mk) m ((key_has ok).mp mm) c.1
      omega
    · intro h
      refine ⟨od, fun _ m hm ne => ?_⟩
      have := h m ((key_has ok).mpr hm)
      rw [Bool.and_eq_true, Bool.not_eq_true', decide_eq_false_iff_not, decide_eq_true_iff] at this
      exact Int.not_lt.mp fun z => this ⟨ne, z⟩
  rw [h1]
  by_cases c : ((keysL (lzOf rs)).filter (·.isSome)).isEmpty = true
  · rw [if_pos (h0.mpr c), if_pos c]
    rfl
  · rw [if_neg (fun z => c (h0.mp z)), if_neg c]
    rfl
end
section
variable {P : Program} {w : World}
/-- [lot for lot in some if ..] -/
theorem lots_lc {S : Addr} {kvs : List (NK × V)} {rs : List Row} {H : Hp} {σ : L2.St} {i0 s0 : Nat} {tt : TT} {Q : VK} {f : Option Int → Bool} (hS : H S = some (DN P w S kvs)) (zd : ZD H kvs (lzOf rs)) (len : rs.length ≤ 1000) (ok : ∀ r ∈ rs, r.Ok) (hs : σ[s0]? = some (some (.ref S)))
    (h1 : ∀ x, ((wipe σ [i0]).set i0 (some x))[i0]? = some (some x)) (h2 : ∀ x, wipe ((wipe σ [i0]).set i0 (some x)) [i0] = wipe σ [i0])
    (htest : ∀ (m : Option Int) (Hx : Hp) (od : Obj) (Qb : Bool → Hp → Prop), HasL rs m → Hx S = some (.frz od (DN P w S kvs)) → (∀ p x, H p = some (.tup x) → Hx p = some (.tup x)) → Qb (f m) Hx → tt ((wipe σ [i0]).set i0 (some (oV m))) Hx Qb)
    (go : ∀ M H', Same H H' → H' M = some (.lst (((keysL (lzOf rs)).filter f).map oV)) → Q (.ref M) H') : tLockE (tLc (iNkP P w (tVar s0)) (gName i0) tt (tVar i0) [i0]) σ H Q := by
  have kl : kvs.length = (lzOf rs).length := Paired.length zd
  have ll := lz_le rs
  refine ⟨S, DN P w S kvs, hS, DN.mut, fun od => ⟨.ref S, hs, S, od, kvs, rfl, upd_same, fun M hM => ?_⟩⟩
  have nM : M ≠ S := fun z => by rw [z, upd_same] at hM; cases hM
  have nM3 : H M = none := by rw [upd_ne nM] at hM; exact hM
  have keep : ∀ (acc : List V) p o, p ≠ S → H p = some o → upd (upd H S (.frz od (DN P w S kvs))) M (.lst acc) p = some o := fun acc p o n e => by
    rw [upd_ne (ne_of_none e nM3), upd_ne n]
    exact e
  refine lc_it walk_nk (fun i H' => H' = upd (upd H S (.frz od (DN P w S kvs))) M (.lst ((((keysL (lzOf rs)).take i).filter f).map oV))) rfl (fun i H' _ e => by rw [e, upd_ne nM.symm]; exact upd_same) ?_ ?_
  · rintro n x H8 H9 hn rfl ⟨rfl, kk, vv, hx, rfl⟩
    have hn2 : n < (lzOf rs).length := by rw [← kl]; exact hn
    have hn3 : n < (keysL (lzOf rs)).length := by unfold keysL; rw [List.length_map]; exact hn2
    obtain ⟨ek, _⟩ := paired_at zd hn hn2
    rw [List.getElem?_eq_getElem hn] at hx
    have ek2 : kk = nk (keysL (lzOf rs))[n] := by
      have e0 : (keysL (lzOf rs))[n]? = some (lzOf rs)[n].1 := by
        unfold keysL
        rw [List.getElem?_map, List.getElem?_eq_getElem hn2]
        rfl
      have e1 := Option.some.inj ((List.getElem?_eq_getElem hn3).symm.trans e0)
      rw [e1, ← ek, Option.some.inj hx]
    subst ek2
    have tk : ((keysL (lzOf rs)).take (n + 1)).filter f = ((keysL (lzOf rs)).take n).filter f ++ (if f (keysL (lzOf rs))[n] = true then [(keysL (lzOf rs))[n]] else []) := by
      rw [List.take_add_one, List.getElem?_eq_getElem hn3, List.filter_append]
      congr 1
      show List.filter f [(keysL (lzOf rs))[n]] = _
      rw [List.filter_cons]
      rfl
    have ln : ((((keysL (lzOf rs)).take n).filter f).map oV).length < sizeLine := by
      rw [List.length_map]
      refine Nat.lt_of_le_of_lt (Nat.le_trans (List.length_filter_le _ _) (show _ ≤ 1000 from ?_)) (by decide)
      rw [List.length_take]
      omega
    have hm := (key_has ok).mp (List.getElem_mem hn3)
    rw [tk]
    generalize (keysL (lzOf rs))[n] = m at hm ⊢
    generalize ((keysL (lzOf rs)).take n).filter f = us at ln ⊢
    have kS : upd (upd H S (.frz od (DN P w S kvs))) M (.lst (us.map oV)) S = some (.frz od (DN P w S kvs)) := by rw [upd_ne nM.symm]; exact upd_same
    have em : nV (nk m) = oV m := nk_v m
    rw [em]
    refine ⟨h2 _, htest m _ od _ hm kS (fun p x e => keep _ _ _ (fun z => by rw [z, hS] at e; cases e) e) ?_⟩
    cases f m with
    | false =>
      refine iteF' ?_
      show _ = _
      rw [if_neg (fun z => nomatch z), List.append_nil]
    | true =>
      refine iteT' ⟨oV m, h1 _, _, upd_same, ln, ?_⟩
      rw [upd_upd, if_pos rfl, List.map_append]
      rfl
  · rintro H8 rfl
    have e8 : (keysL (lzOf rs)).take kvs.length = keysL (lzOf rs) := by
      rw [kl]
      unfold keysL
      rw [List.take_of_length_le (by rw [List.length_map]; exact Nat.le_refl _)]
    rw [e8]
    refine ⟨by rw [upd_ne nM.symm]; exact upd_same, ?_⟩
    have bk : upd (upd (upd H S (.frz od (DN P w S kvs))) M (.lst (((keysL (lzOf rs)).filter f).map oV))) S (DN P w S kvs) = upd H M (.lst (((keysL (lzOf rs)).filter f).map oV)) := by
      funext x
      unfold upd
      by_cases x1 : x = S
      · subst x1
        rw [if_pos rfl, if_neg nM.symm]
        exact hS.symm
      · rw [if_neg x1]
        by_cases x2 : x = M
        · rw [if_pos x2, if_pos x2]
        · rw [if_neg x2, if_neg x2, if_neg x1]
    show Q _ (upd (upd (upd H S (.frz od (DN P w S kvs))) M (.lst (((keysL (lzOf rs)).filter f).map oV))) S (DN P w S kvs))
    rw [bk]
    exact go M _ (same_new nM3) upd_same
end
end K36
end

section
set_option Elab.async false
set_option linter.all false
set_option maxRecDepth 100000
set_option maxHeartbeats 4000000
/-! longer histories, which an order leads -/
namespace K36
open PySem PySem.Spec PyProof.Rows L2 KZ
abbrev sLR : Stmt := top 47
/-- surely, of a history with an order -/
def spSureX (K : PySem.W.Frag) (C : Addr) : Sp := fun vs H Q _ => ∃ (a : Addr) (rs : List Row) (i j : Nat), vs = [.ref a, .int i, .int j] ∧ Hist K C H a rs ∧ rs.length ≤ 1000 ∧ (∀ r ∈ rs, r.Ok) ∧ firstBad rs = none ∧ i ∈ partsOf rs ∧ j ∈ partsOf rs ∧ Orderly rs ∧ ∀ b H', Same H H' → (b = true ↔ Sure rs i j) → Q (.bl b) H'
def spLR (T0 : List (Addr × Str)) : Sp := fun vs H Q _ => ∃ (p c : Addr) (cells : List Int) (n : Nat), vs = [.ref p] ∧ PenAt H p c cells n ∧ n ≤ 4000 ∧ LamX.Tabs T0 H ∧ ∀ H', Q (.bl true) H'
/-- what the law calls of longer histories -/
structure LRF (P : Program) (w : World) (K : PySem.W.Frag) (mg : Str → Option Value) (base : Heap) (C : Addr) : Prop where
  led : Cal P w K mg base "_law_led" 3 ["well", "many", "spread"] spLed
  one : Cal P w K mg base "_law_one" 2 ["well", "some"] spOne
  draw : Cal P w K mg base "_law_draw" 1 ["well", "many"] spDraw
  made : Cal P w K mg base "_law_made" 10 ["row"] (spMade C)
  surely : Cal P w K mg base "surely" 10 ["asks", "one", "other"] (spSureX K C)
  sure : Cal P w K mg base "_law_sure" 4 ["rows", "one", "other"] spLSure
  zones : Cal P w K mg base "_law_zones" 2 ["rows"] (spLZones P w)
  tell : CalK P w K mg base "tellable" 9 ["asks"] (spTellX K C)
def listO (l : List (Option Int)) : PyData := .list (l.map oD)
theorem listO_dp {K : PySem.W.Frag} {H : Hp} {a : Addr} {l : List (Option Int)} (h : H a = some (.lst (l.map oV))) : Dp K H (.ref a) (listO l) := .lst (SqL.of h) (ods_dp l)
theorem listO_shaped (l : List (Option Int)) : SeqAt.shaped (listO l) = true := by
  have := ods_shaped l
  unfold SeqAt.shaped at this ⊢
  exact this
theorem eqv_listO (l : List (Option Int)) : PyData.eqv (listO l) (.list []) = l.isEmpty := by cases l <;> rfl
theorem nats_opts (l : List Nat) : nats l = (l.map fun (i : Nat) => some (i : Int)).map oV := by
  unfold nats
  rw [List.map_map]
  rfl
theorem at_last {xs : List V} {v : V} (h : xs[xs.length - 1]? = some v) : atI xs (-1) = some v := by
  have hl := (List.getElem?_eq_some_iff.mp h).1
  unfold atI ixN
  rw [if_neg (by decide), if_pos (by omega)]
  show xs[((-1 : Int) + (xs.length : Int)).toNat]? = some v
  rw [show ((-1 : Int) + (xs.length : Int)).toNat = xs.length - 1 by omega]
  exact h
section
variable {P : Program} {w : World} {K : PySem.W.Frag} {mg : Str → Option Value} {base : Heap} {C cO cB cT cC : Addr}
theorem scLR : FnScope ["well", "rows", "order", "made", "row", "turn", "one", "other", "some", "due", "at", "lot", "late", "later"] ["well"] (defScope sLR) := ⟨rfl, rfl, rfl, by decide +kernel, rfl, by decide +kernel, by decide +kernel⟩
theorem ok_lr (hmd : ModsD base) {f cc Pt : Addr} {fd : FuncData} {T0 : List (Addr × Str)} (F : Fun K "_law_led_right" "_law_led_right" sLR f fd) (hcode : fd.code = .ref cc) (LA : LamAt T0 base mg cc Pt ("_law_led_right" ++ ".<locals>.")) (T : B1 mg) (A : AskC K mg C)
    (LR : LRF P w K mg base C) (SF : SurelyF P w K mg base C cB cT cC) (HF : HeardF K mg cO cB cT cC) : FnG P w K mg base CX0 13 f fd ["well"] (spLR T0) := by
  obtain ⟨fLd, dLd, gLd, GLd, kLd, bLd⟩ := LR.led.ex
  obtain ⟨fO, dO, gO_, GO, kO, bO⟩ := LR.one.ex
  obtain ⟨fD, dD, gD, GD, kD, bD⟩ := LR.draw.ex
  obtain ⟨fM, dM, gM, GM, kM, bM⟩ := LR.made.ex
  obtain ⟨fSx, dSx, gSx, GSx, kSx, bSx⟩ := LR.surely.ex
  obtain ⟨fLs, dLs, gLs, GLs, kLs, bLs⟩ := LR.sure.ex
  obtain ⟨fLz, dLz, gLz, GLz, kLz, bLz⟩ := LR.zones.ex
  obtain ⟨fT, dT, gT, GT, kT, bT, kbT⟩ := LR.tell.ex
  obtain ⟨fSo, dSo, gSo, GSo, kSo, bSo⟩ := SF.ex
  refine okGc F hcode scLR (fun vs H Q E h => ?_) (fun A' outer s0 H vs Q E hgd hr h => ?_)
  · obtain ⟨p, c, cells, n, rfl, _⟩ := h
    rfl
  · obtain ⟨p, c, cells, n, rfl, pen, hn, tabs, q⟩ := h
    have hr12 : Room 12 _ := hr
    have hr10 : Room 10 _ := hr.mono (by decide)
    have hr9 : Room 9 _ := hr.mono (by decide)
    have hr4 : Room 4 _ := hr.mono (by decide)
    have hr3 : Room 3 _ := hr.mono (by decide)
    have hr2 : Room 2 _ := hr.mono (by decide)
    have hr1 : Room 1 _ := hr.mono (by decide)
    refine ⟨_, (pss_cons (ps_asg (pe_call GLd hr3 (by rfl) gLd kLd bLd .nil pass0 (pa_cons (pv 0) (pa_cons (pe_call GO hr2 (by rfl) gO_ kO bO .nil pass0 (pa_cons (pv 0) (pa_cons (pe_lst (pa_cons pe_int (pa_cons pe_int (pa_cons pe_int (pa_cons pe_int (pa_cons pe_int pa_nil)))))) pa_nil))) (pa_cons (pe_call GO hr2 (by rfl) gO_ kO bO .nil pass0 (pa_cons (pv 0) (pa_cons (pe_lst (pa_cons pe_int (pa_cons pe_int (pa_cons pe_int (pa_cons pe_int pa_nil))))) pa_nil))) pa_nil)))) (pg_tup rfl (pgs_cons (pg_name (i := 1) scLR.nd rfl (Or.inl rfl)) (pgs_cons (pg_name (i := 2) scLR.nd rfl (Or.inl rfl)) pgs_nil))))
(pss_cons (ps_setLc (i := 3) (own := [("row", 4)]) (g := gName 4) (tt := tYes) (by rfl) scLR.nd rfl rfl (sw_true rfl rfl rfl (by decide +kernel)) (pi_list (pv 1)) (blkOk_by (own := [("row", 4)]) (N := ["well", "rows", "order", "made", "row", "turn", "one", "other", "some", "due", "at", "lot", "late", "later"]) (sc := defScope sLR) (by decide +kernel)) (fun _ _ _ _ _ => pg_name (i := 4) scLR.nd rfl (Or.inl rfl)) (fun _ _ _ _ _ => pts_nil) (fun _ _ _ _ _ => pe_call GM hr10 (by rfl) gM kM bM .nil pass0 (pa_cons (pv 4) pa_nil)))
(pss_cons (ps_for PassesOwn.never rfl (pi_range1 (by rfl) T.range (pa_cons pe_int pa_nil)) (pg_name (i := 5) scLR.nd rfl (Or.inl rfl))
(pss_cons (ps_par (i := 6) (j := 7) (by rfl) scLR.nd rfl rfl (by decide) rfl rfl (pa_cons (pe_call GD hr1 (by rfl) gD kD bD .nil pass0 (pa_cons (pv 0) (pa_cons (pe_callB call_len (by rfl) T.len PySem.boot_len (pa_cons (pv 1) pa_nil)) pa_nil))) (pa_cons (pe_call GD hr1 (by rfl) gD kD bD .nil pass0 (pa_cons (pv 0) (pa_cons (pe_callB call_len (by rfl) T.len PySem.boot_len (pa_cons (pv 1) pa_nil)) pa_nil))) pa_nil)) (by rfl))
(pss_one (ps_if (pt_cmpR op_ne (pe_callB (call_reprK K hgd hr.units hmd) (by rfl) T.repr (by decide +kernel) (pa_cons (pe_call GSx hr10 (by rfl) gSx kSx bSx .nil pass0 (pa_cons (pv 3) (pa_cons (pv 6) (pa_cons (pv 7) pa_nil)))) pa_nil)) (pe_callB (call_reprK K hgd hr.units hmd) (by rfl) T.repr (by decide +kernel) (pa_cons (pe_call GLs hr4 (by rfl) gLs kLs bLs .nil pass0 (pa_cons (pv 1) (pa_cons (pv 6) (pa_cons (pv 7) pa_nil)))) pa_nil)) (nomark _))
(pss_one (ps_ret pe_bl))
pss_nil))))
(pss_cons (ps_set (i := 8) scLR.nd rfl (Or.inr rfl) (pe_call GLz hr2 (by rfl) gLz kLz bLz .nil pass0 (pa_cons (pv 1) pa_nil)))
(pss_cons (ps_set (i := 9) scLR.nd rfl (Or.inl rfl) (pe_lst pa_nil))
(pss_cons (ps_for PassesOwn.never rfl (pi_list (pe_lc (own := [("at", 10), ("row", 4)]) (by rfl) scLR.nd (pi_enum (by rfl) T.enum (pa_cons (pv 1) pa_nil)) (blkOk_by (own := [("at", 10), ("row", 4)]) (N := ["well", "rows", "order", "made", "row", "turn", "one", "other", "some", "due", "at", "lot", "late", "later"]) (sc := defScope sLR) (by decide +kernel)) (fun _ _ _ _ _ => pg_tupK (n := 2) K rfl ((pgs_cons (pg_name (i := 10) scLR.nd rfl (Or.inl rfl)) (pgs_cons (pg_name (i := 4) scLR.nd rfl (Or.inl rfl)) pgs_nil)))) (fun _ _ _ _ _ => pts_one (pt_cmpR op_eq (pe_ix (ix_seqK K) (pv 4) pe_int (fun _ _ => rfl)) pe_str (nomark _))) (fun _ _ _ _ _ => pv 10))) (pg_name (i := 10) scLR.nd rfl (Or.inr rfl))
(pss_one (ps_if (pt_cmpR (op_eqD hr.units) (pe_lock (pe_lc (own := [("lot", 11)]) (g := gName 11) (by rfl) scLR.nd (pi_nkK P w (pv 8)) (blkOk_by (own := [("lot", 11)]) (N := ["well", "rows", "order", "made", "row", "turn", "one", "other", "some", "due", "at", "lot", "late", "later"]) (sc := defScope sLR) (by decide +kernel)) (fun _ _ _ _ _ => pg_name (i := 11) scLR.nd rfl (Or.inl rfl)) (fun _ _ _ _ _ => pts_one (PW.pt (pw_and (pt_cmpR op_ne (pv 11) (pv 10) (nomark _)) (pw_and1 (pt_cmpR op_lt (pe_ix (ix_seqK K) (pe_ngetK P w (pv 8) (pv 10) (fun _ _ => rfl)) pe_int (fun _ _ => rfl)) (pe_ix (ix_seqK K) (pe_ngetK P w (pv 8) (pv 11) (fun _ _ => rfl)) pe_int (fun _ _ => rfl)) (nomark _)))))) (fun _ _ _ _ _ => pv 11))) (pe_lst pa_nil) (nomark _))
(pss_one (ps_expr (pe_bm PySem.F.plainAttrs_list PySem.F.slot_list_append PySem.F.type_list_append mt_append (pv 9) (pa_cons (pv 10) pa_nil))))
pss_nil)))
(pss_cons (ps_if (pt_cmpR (op_eqD hr.units) (pe_lock (pe_lc (own := [("lot", 11)]) (g := gName 11) (by rfl) scLR.nd (pi_nkK P w (pv 8)) (blkOk_by (own := [("lot", 11)]) (N := ["well", "rows", "order", "made", "row", "turn", "one", "other", "some", "due", "at", "lot", "late", "later"]) (sc := defScope sLR) (by decide +kernel)) (fun _ _ _ _ _ => pg_name (i := 11) scLR.nd rfl (Or.inl rfl)) (fun _ _ _ _ _ => pts_one (pt_cmpR op_notN (pv 11) pe_non (nomark _))) (fun _ _ _ _ _ => pv 11))) (pe_lst pa_nil) (nomark _))
(pss_one (ps_set (i := 9) scLR.nd rfl (Or.inl rfl) (pe_op op_cat (pe_lst (pa_cons pe_non pa_nil)) (pv 9))))
pss_nil)
(pss_cons (ps_if (pt_cmpR op_ne (pe_callB (call_reprK K hgd hr.units hmd) (by rfl) T.repr (by decide +kernel) (pa_cons (pe_call GT hr9 (by rfl) gT kT bT .nil pass0 (pa_cons (pv 3) pa_nil)) pa_nil)) (pe_callB (call_reprK K hgd hr.units hmd) (by rfl) T.repr (by decide +kernel) (pa_cons (pe_callTy call_tuple_of (by rfl) T.tuple (by decide +kernel) (pa_cons (pv 9) pa_nil)) pa_nil)) (nomark _))
(pss_one (ps_ret pe_bl))
pss_nil)
(pss_cons (ps_set (i := 12) scLR.nd rfl (Or.inr rfl) (pe_tup (pa_cons pe_str (pa_cons pe_str (pa_cons (pe_op op_add (pe_ix (ix_seqK K) (pe_ix (ix_seqK K) (pv 1) (pe_ix (ix_seqK K) (pv 2) (pe_un un_neg pe_int) (fun _ _ => rfl)) (fun _ _ => rfl)) pe_int (fun _ _ => rfl)) pe_int) (pa_cons (pe_op op_add (pe_ix (ix_seqK K) (pe_ix (ix_seqK K) (pv 1) (pe_ix (ix_seqK K) (pv 2) (pe_un un_neg pe_int) (fun _ _ => rfl)) (fun _ _ => rfl)) pe_int (fun _ _ => rfl)) pe_int) (pa_cons pe_non pa_nil)))))))
(pss_cons (ps_if (pt_cmpR (op_eqD hr.units) (pe_lock (pe_lc (own := [("lot", 11)]) (g := gName 11) (by rfl) scLR.nd (pi_nkK P w (pv 8)) (blkOk_by (own := [("lot", 11)]) (N := ["well", "rows", "order", "made", "row", "turn", "one", "other", "some", "due", "at", "lot", "late", "later"]) (sc := defScope sLR) (by decide +kernel)) (fun _ _ _ _ _ => pg_name (i := 11) scLR.nd rfl (Or.inl rfl)) (fun _ _ _ _ _ => pts_one (PW.pt (pw_and (pt_cmpR op_notN (pv 11) pe_non (nomark _)) (pw_and1 (pt_cmpR op_lt (pe_ix (ix_seqK K) (pe_ngetK P w (pv 8) (pv 11) (fun _ _ => rfl)) pe_int (fun _ _ => rfl)) (pe_ix (ix_seqK K) (pv 12) pe_int (fun _ _ => rfl)) (nomark _)))))) (fun _ _ _ _ _ => pv 11))) (pe_lst pa_nil) (nomark _))
(pss_one (ps_ret pe_bl))
pss_nil)
(pss_cons (ps_set (i := 13) scLR.nd rfl (Or.inr rfl) (pe_op op_cat (pv 3) (pe_lst (pa_cons (pe_call GM hr10 (by rfl) gM kM bM .nil pass0 (pa_cons (pv 12) pa_nil)) pa_nil))))
(pss_one (ps_ret (pe_and (pe_cmpR (op_eqD hr.units) (pe_call GT hr9 (by rfl) gT kT bT .nil pass0 (pa_cons (pv 13) pa_nil)) (pe_tup pa_nil) (nomark _)) (pe_one (pe_cmpR (op_eqD hr.units) (pe_heard (t := fun E_ => tCall (spSurely K C cB cT cC) [] E_ (tCons (tVar 13) (tCons (tC (.int 0)) (tCons (tC (.int 1)) tNil)))) HF LA T hr12 (by rfl) rfl (LamX.lamS_by (sc := defScope sLR) (by decide +kernel)) rfl (fun _ _ _ _ _ => rfl) (fun A_ outer_ s_ H_ E_ f_ c_ hr_ => pe_call GSo (hr_.mono (by decide)) (by rfl) gSo kSo bSo .nil (passes_call (takes_of rfl rfl rfl rfl) fun _ _ _ _ z => z) (pa_cons (pv 13) (pa_cons pe_int (pa_cons pe_int pa_nil))))) (pe_tup (pa_cons pe_str (pa_cons pe_str pa_nil))) (nomark _))))))))))))))))), ?_⟩
    refine ⟨.ref p, rfl, .ref p, rfl, by show 5 ≤ sizeLine; decide, fun LA1 hLA1 => ?_⟩
    have z1 := same_new (o := .lst [.int 6, .int 9, .int 20, .int 60, .int 300]) hLA1
    refine ⟨p, c, LA1, cells, _, _, rfl, pen.mono z1 (Nat.le_refl _), by omega, upd_same, (pen.nn hLA1).1, by show 0 < 5; decide, by show 5 ≤ 100; decide, fun j1 x1 H2 ex1 pen2 kp2 => ⟨.ref p, rfl, by show 4 ≤ sizeLine; decide, fun LB1 hLB1 => ?_⟩⟩
    have z2 := same_new (o := .lst [.int 4, .int 12, .int 30, .int 90]) hLB1
    refine ⟨p, c, LB1, cells, _, _, rfl, pen2.mono z2 (Nat.le_refl _), by omega, upd_same, (pen2.nn hLB1).1, by show 0 < 4; decide, by show 4 ≤ 100; decide, fun j2 x2 H3 ex2 pen3 kp3 => ?_⟩
    obtain ⟨m, rfl, m6, m300⟩ : ∃ m : Nat, x1 = .int m ∧ 6 ≤ m ∧ m ≤ 300 := by
      rcases j1 with _ | _ | _ | _ | _ | j1
      · exact ⟨6, (Option.some.inj ex1).symm, by decide, by decide⟩
      · exact ⟨9, (Option.some.inj ex1).symm, by decide, by decide⟩
      · exact ⟨20, (Option.some.inj ex1).symm, by decide, by decide⟩
      · exact ⟨60, (Option.some.inj ex1).symm, by decide, by decide⟩
      · exact ⟨300, (Option.some.inj ex1).symm, by decide, by decide⟩
      · cases ex1
    obtain ⟨sd, rfl, sd1, sd2⟩ : ∃ sd : Int, x2 = .int sd ∧ 1 ≤ sd ∧ sd ≤ 1000 := by
      rcases j2 with _ | _ | _ | _ | j2
      · exact ⟨4, (Option.some.inj ex2).symm, by decide, by decide⟩
      · exact ⟨12, (Option.some.inj ex2).symm, by decide, by decide⟩
      · exact ⟨30, (Option.some.inj ex2).symm, by decide, by decide⟩
      · exact ⟨90, (Option.some.inj ex2).symm, by decide, by decide⟩
      · cases ex2
    dsimp only [tNil]
    have tabs3 : LamX.Tabs T0 H3 := tabs_kept (tabs_same (tabs_kept (tabs_same tabs z1) (pen.mono z1 (Nat.le_refl _)) kp2) z2) (pen2.mono z2 (Nat.le_refl _)) kp3
    clear z1 z2 hLA1 hLB1 ex1 ex2 pen2 pen kp2 kp3 tabs
    refine ⟨p, c, cells, _, m, sd, rfl, pen3, by omega, by omega, m300, sd1, sd2, fun t a o rs pl H4 na pen4 kp4 ht rows ho led lm => ⟨t, _, rfl, SqT.of ht, rfl, _, _, rfl, _, _, rfl, rfl, ?_⟩⟩
    have tabs4 := tabs_kept tabs3 pen3 kp4
    have hl : rs.length ≤ 1000 := by omega
    have ok := led.ok
    have nb := led.nb
    have od := led.orderly
    have part : ∀ {k : Nat}, k < rs.length → k ∈ partsOf rs := fun h => led.parts.mpr h
    have hs : ∀ r ∈ rs, r.c.length ≤ 1000 := fun r mr => by
      obtain ⟨k, hk, e⟩ := List.mem_iff_getElem.mp mr
      rw [(led.row (k := k) (r := r) (by rw [List.getElem?_eq_getElem hk, e])).1]
      decide +kernel
    have no : o ≠ p := pen4.ne_of ho fun _ y => nomatch y
    clear tabs3 pen3 kp4 ht
    obtain ⟨ps, ha, lp, hp⟩ := id rows
    have psl : (ps.map V.ref).length = rs.length := by rw [List.length_map, lp]
    refine ⟨.ref a, rfl, a, rfl, ⟨_, SqL.of ha⟩, fun M hM0 => made_lc rows ok hl hs hM0 (fun _ => rfl) (fun _ => rfl) fun ms H5 am hM s5 => ?_⟩
    have nM := (pen4.nn hM0).1
    have pen5 := pen4.mono s5 (Nat.le_refl _)
    have tabs5 := tabs_same tabs4 s5
    have rows5 := rows.mono s5
    have ho5 := s5 _ _ ho
    have ha5 := s5 _ _ ha
    clear pen4 tabs4 ho hM0
    have bt : ∀ b : Bool, (PyData.bool b).showable = true ∧ (PyData.bool b).shown.length ≤ 10000 ∧ (PyData.bool b).depth ≤ 40 := fun b => by cases b <;> decide +kernel
    refine ⟨8, rfl, by decide, by decide, for_range (n := 8) (fun i σ H' => ∃ x5 x6 x7, σ = [some (.ref p), some (.ref a), some (.ref o), some (.ref M), none, x5, x6, x7, none, none, none, none, none, none] ∧ PenAt H' p c cells (n + 1 + 1 + 5 * m + 2 * i) ∧ Kept p H5 H') ⟨_, _, _, rfl, pen5, fun _ _ _ e => e⟩ ?_ ?_⟩
    · rintro i σ H6 hi ⟨x5, x6, x7, rfl, pen6, kp6⟩
      refine nx_go ?_
      have ha6 := kp6 _ _ na ha5
      refine ⟨.ref p, rfl, .ref a, rfl, .ref a, rs.length, rfl, .inl ⟨_, SqL.of ha6, psl.symm⟩, p, c, cells, _, rs.length, rfl, pen6, by omega, by omega, by omega, fun u1 H7 u10 u11 pen7 kp7 => ?_⟩
      have ha7 := kp7 _ _ na ha6
      refine ⟨.ref p, rfl, .ref a, rfl, .ref a, rs.length, rfl, .inl ⟨_, SqL.of ha7, psl.symm⟩, p, c, cells, _, rs.length, rfl, pen7, by omega, by omega, by omega, fun u2 H8 u20 u21 pen8 kp8 => ?_⟩
      obtain ⟨j1, rfl⟩ : ∃ j : Nat, u1 = j := ⟨_, (Int.toNat_of_nonneg u10).symm⟩
      obtain ⟨j2, rfl⟩ : ∃ j : Nat, u2 = j := ⟨_, (Int.toNat_of_nonneg u20).symm⟩
      have kp58 := kp6.trans (kp7.trans kp8)
      refine ⟨_, _, rfl, ?_⟩
      dsimp only
      refine ifs_go ⟨.ref M, rfl, .int j1, rfl, .int j2, rfl, ?_⟩
      dsimp only [tNil]
      have hist : Hist K C H8 M rs := ⟨ms, .inl (SqL.of (kp58 _ _ nM hM)), am.1, fun i q r e1 e2 => by
        obtain ⟨dx, hx⟩ := am.2 i q r e1 e2
        exact ⟨dx, kp58 _ _ (pen5.ne_of hx fun _ y => nomatch y) hx⟩⟩
      have rows8 : RowsAt H8 a rs := ⟨ps, kp58 _ _ na ha5, lp, fun i q r e1 e2 => kp58 _ _ (pen5.ne_of (s5 _ _ (hp i q r e1 e2)) fun _ y => nomatch y) (s5 _ _ (hp i q r e1 e2))⟩
      refine ⟨M, rs, j1, j2, rfl, hist, hl, ok, nb, part (by omega), part (by omega), od, fun b H9 s9 hb => ⟨.bl b, .bool b, rfl, .bl b, (bt b).1, (bt b).2.1, (bt b).2.2, .ref a, rfl, .int j1, rfl, .int j2, rfl, ?_⟩⟩
      dsimp only [tNil]
      refine ⟨a, rs, j1, j2, rfl, rows8.mono s9, hl, ok, nb, part (by omega), part (by omega), od, fun b2 H10 s10 hb2 => ⟨.bl b2, .bool b2, rfl, .bl b2, (bt b2).1, (bt b2).2.1, (bt b2).2.2, ?_⟩⟩
      obtain rfl : b = b2 := by rw [Bool.eq_iff_iff]; exact hb.trans hb2.symm
      refine ⟨rfl, false, ne_self, iteF' ⟨_, _, _, rfl, (pen8.mono (s9.trans s10) (Nat.le_refl _)).more (by omega), kp58.trans (Kept.of (s9.trans s10))⟩⟩
    rintro σ H6 ⟨x5, x6, x7, rfl, pen6, kp6⟩
    have rows6 : RowsAt H6 a rs := ⟨ps, kp6 _ _ na ha5, lp, fun i q r e1 e2 => kp6 _ _ (pen5.ne_of (s5 _ _ (hp i q r e1 e2)) fun _ y => nomatch y) (s5 _ _ (hp i q r e1 e2))⟩
    have am6 : AsksAt C H6 ms rs := ⟨am.1, fun i q r e1 e2 => by
      obtain ⟨dx, hx⟩ := am.2 i q r e1 e2
      exact ⟨dx, kp6 _ _ (pen5.ne_of hx fun _ y => nomatch y) hx⟩⟩
    have hM6 := kp6 _ _ nM hM
    have ho6 := kp6 _ _ no ho5
    have tabs6 := tabs_kept tabs5 pen5 kp6
    refine st_go [some (.ref p), some (.ref a), some (.ref o), some (.ref M), none, x5, x6, x7, none, none, none, none, none, none] rfl ?_
    clear kp6 pen6 tabs5 pen5 ho5 ha5 rows5 am hM s5 hp ha rows
    dsimp only
    refine ⟨.ref a, rfl, ?_⟩
    dsimp only [tNil]
    refine ⟨a, rs, rfl, rows6, hl, ok, nb, fun S H7 s7 lz => nx_go ?_⟩
    obtain ⟨kvs, hS7, zd7⟩ := lz
    refine ⟨Nat.zero_le _, fun DU hDU => nx_go ?_⟩
    have sDU := same_new (o := .lst []) hDU
    have fDU : upd H7 DU (.lst []) DU = some (.lst []) := upd_same
    have s8 := s7.trans sDU
    have hS8 := sDU _ _ hS7
    have zd8 := zd7.mono fun q x e => sDU _ _ e
    generalize upd H7 DU (.lst []) = H8 at sDU fDU s8 hS8 zd8 ⊢
    have rows8 := rows6.mono s8
    obtain ⟨ps, ha8, lp, hp⟩ := id rows8
    have psl : (ps.map V.ref).length = rs.length := by rw [List.length_map, lp]
    refine ⟨.ref a, rfl, a, _, rfl, SqL.of ha8, fun D8 hD8 => ?_⟩
    refine lc_it (walk_enum (K := K) (a := a) (xs := ps.map V.ref)) (fun i H' => H' D8 = some (.lst (nats ((List.range i).filter (isPutAt rs)))) ∧ Same H8 H') ⟨upd_same, same_new hD8⟩ (fun i H' _ e => SqL.of (e.2 _ _ ha8)) ?_ ?_
    · rintro i x H2 H3 hi ⟨hg, s2⟩ ⟨T0, xa, xb, rfl, hT0, rfl, ea, eb⟩
      rw [psl] at hi
      cases ea
      have er : rs[i]? = some rs[i] := List.getElem?_eq_getElem hi
      obtain ⟨p1, rfl, row⟩ : ∃ q, xb = .ref q ∧ RowAt H8 q rs[i] := by
        have eb : (ps.map V.ref)[i]? = some xb := eb
        rw [List.getElem?_map, List.getElem?_eq_getElem (show i < ps.length by omega)] at eb
        exact ⟨ps[i]'(by omega), (Option.some.inj eb).symm, hp i _ _ (List.getElem?_eq_getElem _) er⟩
      have s3 := s2.trans (same_new (o := .tup [.int (i : Nat), .ref p1]) hT0)
      have ra := s3 _ _ row
      have hg3 : upd H2 T0 (.tup [.int (i : Nat), .ref p1]) D8 = some (.lst (nats ((List.range i).filter (isPutAt rs)))) := by rw [upd_ne (ne_of_none hg hT0)]; exact hg
      have ip := put_at er
      have nx : nats ((List.range (i + 1)).filter (isPutAt rs)) = nats ((List.range i).filter (isPutAt rs)) ++ (if isPutAt rs i = true then [V.int (i : Int)] else []) := by
        rw [List.range_succ, List.filter_append]
        cases c : isPutAt rs i <;> simp [nats, c]
      have al : (nats ((List.range i).filter (isPutAt rs))).length < sizeLine := by
        unfold nats
        rw [List.length_map]
        refine Nat.lt_of_le_of_lt (Nat.le_trans (List.length_filter_le _ _) (show _ ≤ 1000 from ?_)) (by decide)
        rw [List.length_range]
        omega
      rw [nx, ip]
      generalize rs[i] = r at ra
      generalize nats ((List.range i).filter (isPutAt rs)) = us at hg3 al ⊢
      have fT : upd H2 T0 (.tup [.int (i : Nat), .ref p1]) T0 = some (.tup [.int (i : Nat), .ref p1]) := upd_same
      generalize upd H2 T0 (.tup [.int (i : Nat), .ref p1]) = H3 at s3 hg3 ra fT ⊢
      refine ⟨T0, [.int (i : Nat), .ref p1], rfl, SqT.of fT, rfl, _, _, rfl, _, _, rfl, rfl, rfl, .ref p1, rfl, Sq.ix (.inr (SqT.of ra)) (show atI (rowV r) 1 = some (.str (wd r.g)) from at_nat (i := 1) rfl) ⟨rfl, !r.g, (by cases r.g <;> decide +kernel), ?_⟩⟩
      cases (!r.g) with
      | false =>
        refine iteF' ⟨?_, s3⟩
        rw [if_neg (fun y => nomatch y), List.append_nil]
        exact hg3
      | true =>
        refine iteT' ⟨.int (i : Nat), rfl, _, hg3, al, by rw [upd_same]; rfl, fun b o e => ?_⟩
        rw [upd_ne (ne_of_none e hD8)]
        exact s3 b o e
    rintro H9 ⟨fD8, s9⟩
    rw [psl] at fD8
    have fD8 : H9 D8 = some (.lst (nats (putsOf rs))) := fD8
    have plen : (putsOf rs).length ≤ 300 := by
      unfold putsOf
      refine Nat.le_trans (List.length_filter_le _ _) ?_
      rw [List.length_range]
      omega
    have nDS : DU ≠ S := fun z => by rw [z, hS7] at hDU; cases hDU
    have nD8 : D8 ≠ DU := (ne_of_none fDU hD8).symm
    have h6DU : H6 DU = none := by
      cases hz : H6 DU with
      | none => rfl
      | some u => rw [s7 _ _ hz] at hDU; cases hDU
    have all : ∀ k ∈ putsOf rs, HasL rs (some (k : Int)) := fun k mk => by
      have kl := List.mem_range.mp (List.mem_filter.mp mk).1
      have kp := (List.mem_filter.mp mk).2
      refine ⟨k, part kl, ?_⟩
      have ek : rs[k]? = some rs[k] := List.getElem?_eq_getElem kl
      rw [put_at ek] at kp
      rw [lotI_at ek]
      unfold lotOf
      rw [if_neg (by cases hg : rs[k].g with | true => rw [hg] at kp; cases kp | false => exact fun y => nomatch y)]
    -- what a lot's zone is
    have zone : ∀ (k : Option Int) (Hx : Hp), HasL rs k → (∀ q x, H8 q = some (.tup x) → Hx q = some (.tup x)) → ∃ qz, valV kvs (nk k) = some (.ref qz) ∧ Hx qz = some (.tup [.int (Ez rs k), .int (Bz rs k)]) := fun k Hx hk keep => by
      have zj := zd_val (k := k) zd8
      rw [lz_some ok hk] at zj
      obtain ⟨qz, e1, e2⟩ := zj
      exact ⟨qz, e1, keep _ _ e2⟩
    refine ⟨D8, rfl, ⟨_, SqL.of fD8⟩, ?_⟩
    refine for_it (walk_list (K := K) (a := D8) (xs := nats (putsOf rs))) (fun i σ H' => ∃ x10, σ = [some (.ref p), some (.ref a), some (.ref o), some (.ref M), none, x5, x6, x7, some (.ref S), some (.ref DU), x10, none, none, none] ∧ H' DU = some (.lst (nats (((putsOf rs).take i).filter (lotB rs)))) ∧ H' D8 = some (.lst (nats (putsOf rs))) ∧ H' S = some (DN P w S kvs) ∧ (∀ q x, H8 q = some (.tup x) → H' q = some (.tup x)) ∧ Same H6 H') ⟨_, rfl, s9 _ _ fDU, fD8, s9 _ _ hS8, fun q x e => s9 _ _ e, s8.trans s9⟩ (fun i σ H' _ ⟨_, _, _, f, _⟩ => SqL.of f) ?_ ?_
    · rintro i x σ H1 H3 hi ⟨x10, rfl, gDU, gD8, gS, gT, sH⟩ ⟨rfl, hx⟩
      have hi2 : i < (putsOf rs).length := by unfold nats at hi; rw [List.length_map] at hi; exact hi
      have ex : x = .int ((putsOf rs)[i] : Nat) := by
        unfold nats at hx
        rw [List.getElem?_map, List.getElem?_eq_getElem hi2] at hx
        exact (Option.some.inj hx).symm
      subst ex
      have hk := all _ (List.getElem_mem hi2)
      have tk : ((putsOf rs).take (i + 1)).filter (lotB rs) = ((putsOf rs).take i).filter (lotB rs) ++ (if lotB rs (putsOf rs)[i] = true then [(putsOf rs)[i]] else []) := by
        rw [List.take_add_one, List.getElem?_eq_getElem hi2, List.filter_append]
        congr 1
        show List.filter _ [(putsOf rs)[i]] = _
        rw [List.filter_cons]
        rfl
      have fl : (((putsOf rs).take i).filter (lotB rs)).length ≤ 300 := by
        refine Nat.le_trans (List.length_filter_le _ _) ?_
        rw [List.length_take]
        omega
      rw [tk]
      generalize ((putsOf rs).take i).filter (lotB rs) = us at gDU fl ⊢
      generalize (putsOf rs)[i] = k at hk ⊢
      refine nx_go ?_
      refine ifs_go ?_
      dsimp only [tTest, tOp]
      refine lots_lc (f := fun m => !decide (m = some (k : Int)) && decide (Ez rs (some (k : Int)) < Bz rs m)) gS (zd8.mono gT) hl ok rfl (fun _ => rfl) (fun _ => rfl) (fun m Hx odx Qb hm kS keep qb => ?_) (fun Lx H4 s4 hLx => ?_)
      · refine ⟨oV m, rfl, .int k, rfl, (by cases m <;> rfl), !decide (m = some (k : Int)), ?_, ?_⟩
        · show V.bl (!decide (oV m = oV (some (k : Int)))) = _
          rw [eq_oV]
        obtain ⟨qk, e1, e2⟩ := zone (some (k : Int)) Hx hk fun q x e => keep _ _ (gT _ _ e)
        obtain ⟨qm, f1, f2⟩ := zone m Hx hm fun q x e => keep _ _ (gT _ _ e)
        cases c1 : decide (m = some (k : Int)) with
        | true =>
          rw [c1] at qb
          exact iteF' qb
        | false =>
          rw [c1] at qb
          exact iteT' ⟨.ref S, rfl, .int k, rfl, S, kvs, nk (some (k : Int)), .ref qk, rfl, .inr ⟨odx, kS⟩, (nk_v (some (k : Int))).symm, e1, Sq.ix (.inr (SqT.of e2)) (at_nat (i := 0) rfl) ⟨.ref S, rfl, oV m, rfl, S, kvs, nk m, .ref qm, rfl, .inr ⟨odx, kS⟩, (nk_v m).symm, f1, Sq.ix (.inr (SqT.of f2)) (at_nat (i := 1) rfl) ⟨_, _, rfl, rfl, _, rfl, qb⟩⟩⟩
      · refine ⟨Nat.zero_le _, fun l hl0 => ?_⟩
        have sl := same_new (o := .lst []) hl0
        refine ⟨_, _, listO_dp (sl _ _ hLx), Dp.lst (SqL.of upd_same) .nil, listO_shaped _, by decide +kernel, _, rfl, ?_⟩
        rw [eqv_listO]
        have s5 := s4.trans sl
        generalize upd H4 l (.lst []) = H5 at s5 ⊢
        have gDU5 := s5 _ _ gDU
        show if lotB rs k = true then _ else _
        cases lotB rs k with
        | false =>
          refine iteF' ⟨_, rfl, ?_, s5 _ _ gD8, s5 _ _ gS, fun q x e => s5 _ _ (gT _ _ e), sH.trans s5⟩
          rw [if_neg (fun y => nomatch y), List.append_nil]
          exact gDU5
        | true =>
          refine iteT' ⟨.ref DU, rfl, .inl ⟨rfl, _, SqL.of gDU5⟩, .int k, rfl, DU, _, _, rfl, rfl, gDU5, ?_, _, rfl, ?_, ?_, ?_, fun q x e => ?_, fun b u e => ?_⟩
          · unfold nats
            rw [List.length_map]
            exact Nat.lt_of_le_of_lt fl (by decide)
          · rw [upd_same, if_pos rfl]
            unfold nats
            rw [List.map_append]
            rfl
          · rw [upd_ne nD8]
            exact s5 _ _ gD8
          · rw [upd_ne nDS.symm]
            exact s5 _ _ gS
          · rw [upd_ne (fun z => by rw [z, fDU] at e; cases e)]
            exact s5 _ _ (gT _ _ e)
          · rw [upd_ne (ne_of_none e h6DU)]
            exact (sH.trans s5) b u e
    rintro σ H10 ⟨x10, rfl, gDU, gD8, gS, gT, sH⟩
    have puE : (putsOf rs).take (nats (putsOf rs)).length = putsOf rs := by
      unfold nats
      rw [List.length_map, List.take_of_length_le (Nat.le_refl _)]
    rw [puE] at gDU
    obtain ⟨mx, mm, mu⟩ := max_in (endsOf rs) (by unfold endsOf; simp)
    have bh := behind_of ok mm mu
    have dueE := due_lots ok nb od all bh
    have dueL : (dueOf rs (mx + 1)).length ≤ 301 := by
      unfold dueOf
      refine Nat.le_trans (List.length_filter_le _ _) ?_
      rw [List.length_cons, List.length_map]
      omega
    have dueT : Tell (oDs (dueOf rs (mx + 1))) := ods_tell (by omega) fun o mo i e => by
      obtain ⟨k, rfl, hk⟩ := due_in mo e
      unfold SmI
      rw [Int.natAbs_natCast]
      exact Nat.lt_trans (show k < 301 by omega) (by decide)
    generalize mx + 1 = late at bh dueE dueL dueT
    clear mm mu
    have am10 := ask_mono sH am6
    have hM10 := sH _ _ hM6
    have rows10 := rows6.mono sH
    have ho10 := sH _ _ ho6
    have tabs10 := tabs_same tabs6 sH
    have gZ : ∀ (k : Option Int) (Hx : Hp), HasL rs k → (∀ q x, H10 q = some (.tup x) → Hx q = some (.tup x)) → ∃ qz, valV kvs (nk k) = some (.ref qz) ∧ Hx qz = some (.tup [.int (Ez rs k), .int (Bz rs k)]) := fun k Hx hk keep => zone k Hx hk fun q x e => keep _ _ (gT _ _ e)
    have zd10 := zd8.mono gT
    clear zone zd8 gT sH s9 s8 gD8 fD8 fDU rows8 ha8 hp lp psl s7 sDU hS7 zd7 hS8 rows6 am6 hM6 ho6 tabs6 hDU h6DU nDS nD8 hD8
    dsimp only
    refine if_due (fun σ' H' => ∃ DV, σ' = [some (.ref p), some (.ref a), some (.ref o), some (.ref M), none, x5, x6, x7, some (.ref S), some (.ref DV), x10, none, none, none] ∧ H' DV = some (.lst ((dueOf rs late).map oV)) ∧ Same H10 H') (fun Dn z => ?_) (fun σ' H11 ⟨DV, eσ, fDV, s11⟩ => ?_)
    · refine ifs_go ?_
      dsimp only [tTest, tOp]
      refine lots_lc (f := fun m => m.isSome) gS zd10 hl ok rfl (fun _ => rfl) (fun _ => rfl) (fun m Hx odx Qb hm kS keep qb => ?_) (fun Lx H4 s4 hLx => ?_)
      · exact ⟨oV m, rfl, rfl, m.isSome, (by cases m <;> rfl), qb⟩
      · refine ⟨Nat.zero_le _, fun l hl0 => ?_⟩
        have sl := same_new (o := .lst []) hl0
        refine ⟨_, _, listO_dp (sl _ _ hLx), Dp.lst (SqL.of upd_same) .nil, listO_shaped _, by decide +kernel, _, rfl, ?_⟩
        rw [eqv_listO]
        have s5 := s4.trans sl
        generalize upd H4 l (.lst []) = H5 at s5 ⊢
        have gDU5 := s5 _ _ gDU
        cases c : ((keysL (lzOf rs)).filter fun m => m.isSome).isEmpty with
        | false =>
          have c : ((keysL (lzOf rs)).filter (·.isSome)).isEmpty = false := c
          rw [c, if_neg (fun y => nomatch y), List.nil_append] at dueE
          exact iteF' (z _ _ ⟨DU, rfl, by rw [gDU5, dueE, nats_opts], s5⟩)
        | true =>
          have c : ((keysL (lzOf rs)).filter (·.isSome)).isEmpty = true := c
          rw [c, if_pos rfl] at dueE
          refine iteT' ⟨by show 1 ≤ sizeLine; decide, fun L1 hL1 => ⟨.ref DU, rfl, ?_⟩⟩
          have sx := same_new (o := .lst [.non]) hL1
          refine ⟨L1, DU, _, _, rfl, rfl, upd_same, sx _ _ gDU5, ?_, fun L2 hL2 => z _ _ ⟨L2, rfl, ?_, s5.trans (sx.trans (same_new hL2))⟩⟩
          · have := congrArg List.length dueE
            rw [List.length_append, List.length_map, List.length_singleton] at this
            refine Nat.le_trans (show _ ≤ 301 from ?_) (by decide)
            show 1 + (nats ((putsOf rs).filter (lotB rs))).length ≤ 301
            unfold nats
            rw [List.length_map]
            omega
          · rw [upd_same, dueE, List.map_append, nats_opts]
            rfl
    subst eσ
    have am11 := ask_mono s11 am10
    have hM11 := s11 _ _ hM10
    have hist : ∀ {Hx : Hp}, Same H11 Hx → Hist K C Hx M rs := fun {Hx} s => ⟨ms, .inl (SqL.of (s _ _ hM11)), (ask_mono s am11).1, (ask_mono s am11).2⟩
    refine ifs_go ⟨.ref M, rfl, ?_⟩
    dsimp only [tNil]
    obtain ⟨c1, c2, c3⟩ := dueT
    have call : ∀ (Qx : VK) (Ex : XK) (vs : List V), vs = [.ref M] → (∀ p H', Same H11 H' → H' p = some (.tup ((dueOf rs late).map oV)) → Qx (.ref p) H') → spTellX K C vs H11 Qx Ex := fun Qx Ex vs ev k => by
      subst ev
      refine ⟨M, rs, rfl, hist (Same.refl _), hl, ok, nb, fun n1 => absurd od n1, fun _ ns p H' pm asc s' hp => k p H' s' ?_⟩
      rw [due_yes ok nb bh od pm asc, hp]
      split
      · rw [List.map_map]; rfl
      · rw [List.map_cons, List.map_map]; rfl
    refine call _ _ _ rfl fun p1 H12 s12 hp1 => ?_
    refine ⟨.ref p1, oDs (dueOf rs late), rfl, dv_of _ _ (.tup (SqT.of hp1) (ods_dp _)), c1, c2, c3, ?_⟩
    refine ⟨.ref DV, rfl, DV, _, rfl, .inl ⟨SqL.of (s12 _ _ fDV), fun p2 hp2 => ?_⟩⟩
    have s13 := s12.trans (same_new (o := .tup ((dueOf rs late).map oV)) hp2)
    refine ⟨.ref p2, oDs (dueOf rs late), rfl, dv_of _ _ (.tup (SqT.of upd_same) (ods_dp _)), c1, c2, c3, rfl, false, ne_self, iteF' ?_⟩
    generalize upd H12 p2 (.tup ((dueOf rs late).map oV)) = H14 at s13 ⊢
    clear c1 c2 c3 hp1 hp2 call fDV dueE dueL
    obtain ⟨kL, hkL⟩ : ∃ k, pl[pl.length - 1]? = some k := ⟨_, List.getElem?_eq_getElem (show pl.length - 1 < pl.length by rw [led.len]; omega)⟩
    have klt : kL < rs.length := led.lt kL (List.mem_of_getElem? hkL)
    have erL : rs[kL]? = some rs[kL] := List.getElem?_eq_getElem klt
    obtain ⟨_, bL0, ⟨e, eL, beL⟩, _⟩ := led.row erL
    have sA := s11.trans s13
    have rows14 := rows10.mono sA
    obtain ⟨q1, xs1, sq1, at1, hq1⟩ := rows14.at (K := K) erL
    have atO : atI (nats pl) (-1) = some (.int (kL : Nat)) := at_last (by unfold nats; rw [List.length_map, List.getElem?_map, hkL]; rfl)
    have at3 : atI (rowV rs[kL]) 3 = some (.int e) := at_nat (i := 3) (by show some (oV rs[kL].e) = _; rw [eL]; rfl)
    have ho14 := sA _ _ ho10
    have e0 : 0 ≤ e := by omega
    refine ⟨.ref a, rfl, .ref o, rfl, 1, rfl, Sq.ix (.inr (SqT.of ho14)) atO (Sq.ix (.inl sq1) at1 (Sq.ix (.inr (SqT.of hq1)) at3 ⟨e, 1, rfl, rfl, .ref a, rfl, .ref o, rfl, 1, rfl, Sq.ix (.inr (SqT.of ho14)) atO (Sq.ix (.inl sq1) at1 (Sq.ix (.inr (SqT.of hq1)) at3 ⟨e, 900, rfl, rfl, by show 5 ≤ sizeLine; decide, fun TL hTL => nx_go ?_⟩))⟩))⟩
    have sTL := same_new (o := .tup [.str "b", .str "get", .int (e + 1), .int (e + 900), .non]) hTL
    have fTL : upd H14 TL (.tup [.str "b", .str "get", .int (e + 1), .int (e + 900), .non]) TL = some (.tup (rowV (lateG e))) := upd_same
    have s15 := sA.trans sTL
    dsimp only
    generalize upd H14 TL (.tup [.str "b", .str "get", .int (e + 1), .int (e + 900), .non]) = H15 at sTL fTL s15 ⊢
    clear at3 atO hq1 at1 sq1 rows14 ho14 s13 s12 hTL sTL s11
    refine ifs_go ?_
    dsimp only [tTest, tOp]
    refine lots_lc (f := fun m => m.isSome && decide (Ez rs m < e + 1)) (s15 _ _ gS) (zd10.mono fun q x e => s15 _ _ e) hl ok rfl (fun _ => rfl) (fun _ => rfl) (fun m Hx odx Qb hm kS keep qb => ?_) (fun Lx H16 s16 hLx => ?_)
    · refine ⟨oV m, rfl, rfl, m.isSome, (by cases m <;> rfl), ?_⟩
      obtain ⟨qm, f1, f2⟩ := gZ m Hx hm fun q x e => keep _ _ (s15 _ _ e)
      cases c1 : m.isSome with
      | false =>
        rw [c1] at qb
        exact iteF' qb
      | true =>
        rw [c1] at qb
        exact iteT' ⟨.ref S, rfl, oV m, rfl, S, kvs, nk m, .ref qm, rfl, .inr ⟨odx, kS⟩, (nk_v m).symm, f1, Sq.ix (.inr (SqT.of f2)) (at_nat (i := 0) rfl) ⟨.ref TL, rfl, Sq.ix (.inr (SqT.of (keep _ _ fTL))) (show atI (rowV (lateG e)) 2 = some (.int (e + 1)) from at_nat (i := 2) rfl) ⟨_, _, rfl, rfl, _, rfl, qb⟩⟩⟩
    refine ⟨Nat.zero_le _, fun l hl0 => ?_⟩
    have sl := same_new (o := .lst []) hl0
    refine ⟨_, _, listO_dp (sl _ _ hLx), Dp.lst (SqL.of upd_same) .nil, listO_shaped _, by decide +kernel, _, rfl, ?_⟩
    rw [eqv_listO]
    have s17 := s15.trans (s16.trans sl)
    have fTL17 := (s16.trans sl) _ _ fTL
    generalize upd H16 l (.lst []) = H17 at s17 fTL17 ⊢
    cases hE : ((keysL (lzOf rs)).filter fun m => m.isSome && decide (Ez rs m < e + 1)).isEmpty with
    | true => exact iteT' (q _)
    | false =>
      have lrow : (lateG e).Ok := late_ok e0
      have ok2 := snoc_ok ok lrow
      have nb2 : firstBad (rs ++ [lateG e]) = none := snoc_nb nb rfl fun i r x er ex => (led.told er ex).2
      have hn : (rs ++ [lateG e])[rs.length]? = some (lateG e) := by rw [List.getElem?_append_right (Nat.le_refl _), Nat.sub_self]; rfl
      have no2 : ¬Orderly (rs ++ [lateG e]) := by
        obtain ⟨mk, mm⟩ : ∃ mk, mk ∈ (keysL (lzOf rs)).filter fun m => m.isSome && decide (Ez rs m < e + 1) := by
          cases hc : (keysL (lzOf rs)).filter fun m => m.isSome && decide (Ez rs m < e + 1) with
          | nil => rw [hc] at hE; cases hE
          | cons x _ => exact ⟨x, List.mem_cons_self⟩
        obtain ⟨m1, m2⟩ := List.mem_filter.mp mm
        rw [Bool.and_eq_true, decide_eq_true_iff] at m2
        have hk := (key_has ok).mp m1
        have nk0 : mk ≠ none := fun z => by rw [z] at m2; cases m2.1
        obtain ⟨⟨i, mi, li, ei⟩, _⟩ := E_spec hk.m nk0
        obtain ⟨r, er⟩ := part_row mi
        have er2 := snoc_get (r := lateG e) er
        rw [lotI_at er] at li
        rw [eI_at er] at ei
        refine late_no ok2 nb2 (i := i) (n := rs.length) (ended_part er2 (by rw [ei]; rfl)) (ended_part hn rfl) (by rw [put_at hn]; rfl) (by rw [lotI_at hn]; rfl) (by rw [lotI_at er2, li]; exact nk0) ?_
        unfold aI
        rw [eI_at er2, ei, bI_at hn]
        exact decide_eq_true m2.2
      have am17 := ask_mono s17 am10
      refine iteF' ⟨.ref M, rfl, .ref TL, rfl, TL, lateG e, rfl, fTL17, lrow, (show ("b" : Str).length ≤ 1000 by decide +kernel), fun x H18 hx s18 ask => ⟨by show 1 ≤ sizeLine; decide, fun L1 hL1 => ?_⟩⟩
      have t1 := s18.trans (same_new (o := .lst [.ref x]) hL1)
      refine ⟨M, L1, _, _, rfl, rfl, t1 _ _ (s17 _ _ hM10), upd_same, Nat.le_trans (show _ ≤ 302 by rw [List.length_map, am10.1, List.length_singleton]; omega) (by decide), fun L2 hL2 => nx_go ?_⟩
      have t2 := t1.trans (same_new (o := .lst (ms.map V.ref ++ [.ref x])) hL2)
      have fL2 : upd (upd H18 L1 (.lst [.ref x])) L2 (.lst (ms.map V.ref ++ [.ref x])) L2 = some (.lst ((ms ++ [x]).map V.ref)) := by rw [upd_same, List.map_append]; rfl
      have ask2 := ask.mono ((same_new (o := .lst [.ref x]) hL1).trans (same_new (o := .lst (ms.map V.ref ++ [.ref x])) hL2))
      have tabs18 := tabs_same tabs10 (s17.trans t2)
      have am18 := ask_mono t2 am17
      generalize upd (upd H18 L1 (.lst [.ref x])) L2 (.lst (ms.map V.ref ++ [.ref x])) = H19 at fL2 ask2 tabs18 am18 ⊢
      have hist2 : ∀ {Hx : Hp}, LamX.ExtN H19 Hx → Hist K C Hx L2 (rs ++ [lateG e]) := fun {Hx} ex => ⟨ms ++ [x], .inl (SqL.of (ex _ _ fL2 fun _ y => nomatch y)), by rw [List.length_append, List.length_append, am18.1]; rfl, fun i q r e1 e2 => by
        have key : ∀ {q r}, AskAt C H19 q r → AskAt C Hx q r := fun ⟨dx, h⟩ => ⟨dx, ex _ _ h fun _ y => nomatch y⟩
        have l1 := am18.1
        by_cases hi : i < ms.length
        · rw [List.getElem?_append_left hi] at e1
          rw [List.getElem?_append_left (by omega)] at e2
          exact key (am18.2 i q r e1 e2)
        · rw [List.getElem?_append_right (by omega)] at e1 e2
          rw [show i - rs.length = i - ms.length by omega] at e2
          generalize i - ms.length = j at e1 e2
          cases j with
          | zero => cases e1; cases e2; exact key ask2
          | succ j => cases e1⟩
      have len2 : (rs ++ [lateG e]).length ≤ 1000 := by rw [List.length_append, List.length_singleton]; omega
      refine ⟨.ref L2, rfl, ?_⟩
      dsimp only [tNil]
      refine ⟨L2, _, rfl, hist2 (LamX.ExtN.refl _), len2, ok2, nb2, fun _ p3 H20 s20 hp3 => ?_, fun o2 => absurd o2 no2⟩
      refine ⟨Nat.zero_le _, fun t0 ht0 => ?_⟩
      have s21 := s20.trans (same_new (o := .tup []) ht0)
      refine ⟨.tuple [], .tuple [], .tup (SqT.of (same_new ht0 _ _ hp3)) .nil, .tup (SqT.of upd_same) .nil, by decide +kernel, by decide +kernel, true, by decide +kernel, iteT' ?_⟩
      generalize upd H20 t0 (.tup []) = H21 at s21 ⊢
      refine ⟨tabs_same tabs18 s21, fun H22 x22 T22 H23 Q' s23 k => ⟨.ref L2, rfl, ?_⟩⟩
      dsimp only [tNil]
      have e23 := (LamX.ExtN.of s21).trans (x22.trans (LamX.ExtN.of s23))
      have p0 : ∀ k < rs.length, k ∈ partsOf (rs ++ [lateG e]) := fun k hk => by
        have ek : rs[k]? = some rs[k] := List.getElem?_eq_getElem hk
        obtain ⟨_, _, ⟨y, ey, _⟩, _⟩ := led.row ek
        exact ended_part (snoc_get ek) (by rw [ey]; rfl)
      have pD : ∀ k : Nat, k < rs.length → isPartD (rs ++ [lateG e]) (.int (k : Int)) = true := fun k hk => List.any_eq_true.mpr ⟨k, p0 k hk, decide_eq_true rfl⟩
      refine ⟨.ref L2, .int 0, .int 1, .int 0, .int 1, rfl, .int _, .int _, .inr (.inr ⟨L2, _, rfl, hist2 e23, by omega, ok2, fun h => absurd h (by omega), fun _ i e => (by rw [nb2] at e; cases e), fun _ _ => ⟨fun y => absurd (pD 0 (by omega)) (by rw [show isPartD (rs ++ [lateG e]) (.int ((0 : Nat) : Int)) = false from y]; exact fun z => nomatch z), fun _ y => absurd (pD 1 (by omega)) (by rw [show isPartD (rs ++ [lateG e]) (.int ((1 : Nat) : Int)) = false from y]; exact fun z => nomatch z), fun i j e1 e2 mi mj => ⟨fun _ => heard_clash fun t H24 s24 ht => ?_, fun o2 => absurd o2 no2⟩⟩⟩)⟩
      refine ⟨by show 2 ≤ sizeLine; decide, fun t3 ht3 => ?_⟩
      refine ⟨clashD, clashD, .tup (SqT.of (same_new ht3 _ _ ht)) (.cons (.str _) (.cons (.str _) .nil)), .tup (SqT.of upd_same) (.cons (.str _) (.cons (.str _) .nil)), by decide +kernel, by decide +kernel, ?_⟩
      rw [show PyData.eqv clashD clashD = true by decide +kernel]
      exact q _
end
end K36
end

section
set_option Elab.async false
set_option linter.all false
set_option maxRecDepth 100000
set_option maxHeartbeats 4000000
/-! the law -/
namespace K36
open PySem PySem.Spec PyProof.Rows L2 KZ
abbrev sHi : Stmt := top 48
abbrev sLaw : Stmt := top 49
structure CalG (P : Program) (w : World) (K : PySem.W.Frag) (mg : Str → Option Value) (base : Heap) (x : Str) (n : Nat) (ps : List Str) (sp : Sp) : Prop where
  ex : ∃ f fd, mg x = some (.ref f) ∧ FnG P w K mg base CX0 n f fd ps sp ∧ PySem.W.keepIn K (.ref f) = true ∧ Binds K fd ps []
def spHi (T0 : List (Addr × Str)) : Sp := fun vs H Q _ => ∃ (p c a : Addr) (cells : List Int) (n : Nat) (rs : List Row), vs = [.ref p, .ref a] ∧ PenAt H p c cells n ∧ n ≤ 4000 ∧ RowsAt H a rs ∧ rs.length ≤ 6 ∧ (∀ r ∈ rs, r.Ok) ∧ firstBad rs = none ∧ (∀ r ∈ rs, r.c.length ≤ 1000) ∧ LamX.Tabs T0 H ∧
  ∀ H', PenAt H' p c cells (n + 10) → KN p H H' → LamX.Tabs T0 H' → Q (.bl true) H'
def spLaw (K : PySem.W.Frag) (T0 : List (Addr × Str)) : Sp := fun vs H Q _ => ∃ (a : Addr) (ns : List Int), vs = [.ref a] ∧ SqL K H a (ns.map V.int) ∧ ns.length ≤ 63 ∧ (∀ p ∈ T0, H p.1 = some (.tbl #[])) ∧ ∀ H', Q (.bl true) H'
def chainR : List Row := [⟨"a", false, 0, some 9, none⟩, ⟨"c", false, 1, some 2, none⟩, ⟨"d", true, 10, some 11, some 1⟩, ⟨"b", false, 3, some 20, none⟩, ⟨"e", true, 0, some 9, some 0⟩, ⟨"b", true, 5, some 12, some 3⟩]
theorem chain_ok : ∀ r ∈ chainR, r.Ok := by
  intro r m
  unfold chainR at m
  rcases List.mem_cons.mp m with rfl | m
  · exact row_ok' (by decide +kernel) (by decide) (fun x z => by cases z; decide) (fun x z => nomatch z)
  rcases List.mem_cons.mp m with rfl | m
  · exact row_ok' (by decide +kernel) (by decide) (fun x z => by cases z; decide) (fun x z => nomatch z)
  rcases List.mem_cons.mp m with rfl | m
  · exact row_ok' (by decide +kernel) (by decide) (fun x z => by cases z; decide) (fun x z => ⟨rfl, (fun y => nomatch y), by cases z; decide⟩)
  rcases List.mem_cons.mp m with rfl | m
  · exact row_ok' (by decide +kernel) (by decide) (fun x z => by cases z; decide) (fun x z => nomatch z)
  rcases List.mem_cons.mp m with rfl | m
  · exact row_ok' (by decide +kernel) (by decide) (fun x z => by cases z; decide) (fun x z => ⟨rfl, (fun y => nomatch y), by cases z; decide⟩)
  rcases List.mem_cons.mp m with rfl | m
  · exact row_ok' (by decide +kernel) (by decide) (fun x z => by cases z; decide) (fun x z => ⟨rfl, (fun y => nomatch y), by cases z; decide⟩)
  · cases m
theorem chain_nb : firstBad chainR = none := by decide +kernel
theorem chain_zones : zonesOf chainR = [(some 0, 9, 0), (some 1, 2, 10), (some 3, 12, 5)] := by decide +kernel
theorem odd_of {zs : List Zn} (h : ∀ i < zs.length, oddAt zs i = []) : ∀ i, oddAt zs i = [] := fun i => by
  by_cases hi : i < zs.length
  · exact h i hi
  · unfold oddAt
    rw [List.getElem?_eq_none (by omega)]
theorem chain_order : Orderly chainR := by
  refine ⟨by decide +kernel, odd_of ?_⟩
  rw [chain_zones]
  intro i hi
  have hi : i < 3 := hi
  rcases i with _ | _ | _ | i
  · decide +kernel
  · decide +kernel
  · decide +kernel
  · omega
theorem chain_sure : Sure chainR 0 3 := by
  refine ⟨⟨"a", false, 0, some 9, none⟩, ⟨"b", false, 3, some 20, none⟩, rfl, rfl, ?_⟩
  rw [if_pos (by decide +kernel)]
  have z0 : zoneOf chainR (lotOf ⟨"a", false, 0, some 9, none⟩ 0) = (some 0, 9, 0) := by decide +kernel
  have z3 : zoneOf chainR (lotOf ⟨"b", false, 3, some 20, none⟩ 3) = (some 3, 12, 5) := by decide +kernel
  rw [z0, z3, chain_zones]
  refine ⟨(some 1, 2, 10), ?_, by decide⟩
  exact .more .one (by simp) (by decide)
theorem nil_zones : zonesOf [] = [] := by decide +kernel
def r1R : Row := ⟨"a", false, 0, none, none⟩
def r2R : Row := ⟨"a", false, 0, some 1, none⟩
theorem r1_ok : r1R.Ok := row_ok' (by decide +kernel) (by decide) (fun x z => nomatch z) (fun x z => nomatch z)
theorem r2_ok : r2R.Ok := row_ok' (by decide +kernel) (by decide) (fun x z => by cases z; decide) (fun x z => nomatch z)
theorem nil_order : Orderly [] := ⟨rfl, by rw [nil_zones]; exact odd_of fun i hi => absurd hi (Nat.not_lt_zero _)⟩
theorem r1_order : Orderly [r1R] := ⟨by decide +kernel, by
  rw [show zonesOf [r1R] = [] by decide +kernel]
  exact odd_of fun i hi => absurd hi (Nat.not_lt_zero _)⟩
theorem r2_order : Orderly [r2R] := ⟨by decide +kernel, by
  rw [show zonesOf [r2R] = [(some 0, 1, 0)] by decide +kernel]
  refine odd_of fun i hi => ?_
  have hi : i < 1 := hi
  have : i = 0 := by omega
  subst this
  decide +kernel⟩
/-- what is told of a small history -/
theorem tell_small {K : PySem.W.Frag} {C a : Addr} {rs : List Row} {H : Hp} {Q : VK} {E : XK} {vs : List V} {fl : List Int} {us : List (Option Int)} (ev : vs = [.ref a]) (hist : Hist K C H a rs) (hl : rs.length ≤ 1000) (ok : ∀ r ∈ rs, r.Ok) (nb : firstBad rs = none) (od : Orderly rs)
    (e1 : (freeOf rs (zonesOf rs)).map (fun (n : Nat) => (n : Int)) ++ lastOf (zonesOf rs) = fl) (short : fl.length ≤ 1) (e2 : (if someB (zonesOf rs) = true then fl.map V.int else V.non :: fl.map V.int) = us.map oV)
    (k : ∀ p H', Same H H' → H' p = some (.tup (us.map oV)) → Q (.ref p) H') : spTellX K C vs H Q E := by
  subst ev
  refine ⟨a, rs, rfl, hist, hl, ok, nb, fun no => absurd od no, fun _ ns p H' pm asc s' hp => k p H' s' ?_⟩
  rw [e1] at pm
  have : ns = fl := by
    match fl, short with
    | [], _ => exact List.perm_nil.mp pm
    | [x], _ => exact List.perm_singleton.mp pm
  rw [hp, this, e2]
section
variable {P : Program} {w : World} {K : PySem.W.Frag} {mg : Str → Option Value} {base : Heap} {C cB cT : Addr}
theorem scHi : FnScope ["well", "rows"] ["well", "rows"] (defScope sHi) := ⟨rfl, rfl, rfl, by decide +kernel, rfl, by decide +kernel, by decide +kernel⟩
theorem ok_hi {f : Addr} {fd : FuncData} {T0 : List (Addr × Str)} (F : Fun K "_law_history_right" "_law_history_right" sHi f fd) (T : B1 mg) (lo : Cal P w K mg base "_law_orders" 2 ["rows"] spLOrders) (PR : CalG P w K mg base "_law_pairs_right" 13 ["rows", "orders"] (spPR T0))
    (FR : CalG P w K mg base "_law_further_right" 11 ["rows"] spFR) (RF : CalG P w K mg base "_law_refused_right" 13 ["well", "rows"] (spRF T0)) : FnG P w K mg base CX0 14 f fd ["well", "rows"] (spHi T0) := by
  obtain ⟨fL, dL, gLO, GLO, kLO, bLO⟩ := lo.ex
  obtain ⟨f1, d1, gPR, GPR, kPR, bPR⟩ := PR.ex
  obtain ⟨f2, d2, gFR, GFR, kFR, bFR⟩ := FR.ex
  obtain ⟨f3, d3, gRF, GRF, kRF, bRF⟩ := RF.ex
  refine okG F scHi (fun vs H Q E h => ?_) (fun cdv A' outer s0 H vs Q E hgd hr h => ?_)
  · obtain ⟨p, c, a, cells, n, rs, rfl, _⟩ := h
    rfl
  · obtain ⟨p, c, a, cells, n, rs, rfl, pen, hn, hh, hl, ok, nb, hs, tabs, q⟩ := h
    have hr13 : Room 13 _ := hr
    have hr11 : Room 11 _ := hr.mono (by decide)
    have hr2 : Room 2 _ := hr.mono (by decide)
    refine ⟨_, (pss_one (ps_ret (pe_and (pe_callG GPR hgd hr13 (by rfl) gPR kPR bPR .nil pass0 (pa_cons (pv 1) (pa_cons (pe_call GLO hr2 (by rfl) gLO kLO bLO .nil pass0 (pa_cons (pv 1) pa_nil)) pa_nil))) (pe_and (pe_callG GFR hgd hr11 (by rfl) gFR kFR bFR .nil pass0 (pa_cons (pv 1) pa_nil)) (pe_one (pe_callG GRF hgd hr13 (by rfl) gRF kRF bRF .nil pass0 (pa_cons (pv 0) (pa_cons (pv 1) pa_nil)))))))), ?_⟩
    refine ⟨.ref a, rfl, .ref a, rfl, ?_⟩
    dsimp only [tNil]
    refine ⟨a, rs, rfl, hh, by omega, ok, nb, fun L H1 s1 ho => ?_⟩
    refine ⟨a, L, rs, rfl, hh.mono s1, ho, by omega, ok, nb, hs, tabs_same tabs s1, fun H2 e2 t2 => ⟨true, rfl, iteT' ⟨.ref a, rfl, ?_⟩⟩⟩
    have e02 := (LamX.ExtN.of s1).trans e2
    have hh2 : RowsAt H2 a rs := by
      obtain ⟨ps, h1, h2, h3⟩ := hh
      exact ⟨ps, e02 _ _ h1 (fun _ y => nomatch y), h2, fun i q r e1 e2 => e02 _ _ (h3 i q r e1 e2) fun _ y => nomatch y⟩
    dsimp only [tNil]
    refine ⟨a, rs, rfl, hh2, hl, ok, nb, hs, fun H3 s3 => ⟨true, rfl, iteT' ⟨.ref p, rfl, .ref a, rfl, ?_⟩⟩⟩
    have e03 := e02.trans (LamX.ExtN.of s3)
    dsimp only [tNil]
    exact ⟨p, c, a, cells, n, rs, rfl, pen_ext pen e03, hn, hh2.mono s3, hl, ok, nb, hs, tabs_same t2 s3, fun H4 p4 k4 t4 => q H4 p4 ((KN.ext e03).trans k4) t4⟩
theorem scLaw : FnScope ["script", "well", "chain", "row", "turn"] ["script"] (defScope sLaw) := ⟨rfl, rfl, rfl, by decide +kernel, rfl, by decide +kernel, by decide +kernel⟩
theorem ok_law {f fW : Addr} {fd dW : FuncData} {T0 : List (Addr × Str)} (F : Fun K "law" "law" sLaw f fd) (T : B1 mg) (A : AskC K mg C) (IF : InitF P w K mg base C cB) (gW : mg "_law_well" = some (.ref fW)) (GW : FnOk P w K mg base CX0 1 fW dW ["script"] (spPen K)) (kW : PySem.W.keepIn K (.ref fW) = true) (bW : Binds K dW ["script"] [])
    (LR : LRF P w K mg base C) (rows : Cal P w K mg base "_law_rows" 3 ["well", "many", "span"] spRows) (HI : CalG P w K mg base "_law_history_right" 14 ["well", "rows"] (spHi T0)) (LD : CalG P w K mg base "_law_led_right" 13 ["well"] (spLR T0)) : FnG P w K mg base CX0 15 f fd ["script"] (spLaw K T0) := by
  obtain ⟨fR, dR, gR, GR, kR, bR⟩ := rows.ex
  obtain ⟨fO, dO, gO_, GO, kO, bO⟩ := LR.one.ex
  obtain ⟨fD, dD, gD, GD, kD, bD⟩ := LR.draw.ex
  obtain ⟨fM, dM, gM, GM, kM, bM⟩ := LR.made.ex
  obtain ⟨fSx, dSx, gSx, GSx, kSx, bSx⟩ := LR.surely.ex
  obtain ⟨fT, dT, gT, GT, kT, bT, kbT⟩ := LR.tell.ex
  obtain ⟨f1, d1, gHi, GHi, kHi, bHi⟩ := HI.ex
  obtain ⟨f2, d2, gLR, GLR, kLR, bLR⟩ := LD.ex
  obtain ⟨fI, dI, MK, GI, bI5, ⟨ds4, vI4, bI4⟩, ⟨ds3, vI3, bI3⟩, ⟨g1, kb1⟩, ⟨g4, kb4⟩⟩ := IF.ex
  let spI0 : Sp := fun vs H Q _ => spInit K C cB vs H Q fun _ _ _ => False
  have GI0 : FnOk P w K mg base CX0 8 fI dI psI spI0 := FnOk.x0 GI
  refine okG F scLaw (fun vs H Q E h => ?_) (fun cdv A' outer s0 H vs Q E hgd hr h => ?_)
  · obtain ⟨a, ns, rfl, _⟩ := h
    rfl
  · obtain ⟨a, ns, rfl, hs, hl, ht, q⟩ := h
    have hr14 : Room 14 _ := hr
    have hr13 : Room 13 _ := hr.mono (by decide)
    have hr10 : Room 10 _ := hr.mono (by decide)
    have hr9 : Room 9 _ := hr.mono (by decide)
    have hr3 : Room 3 _ := hr.mono (by decide)
    have hr2 : Room 2 _ := hr.mono (by decide)
    have hr1 : Room 1 _ := hr.mono (by decide)
    refine ⟨_, (pss_cons (ps_set (i := 1) scLaw.nd rfl (Or.inl rfl) (pe_call GW hr1 (by rfl) gW kW bW .nil pass0 (pa_cons (pv 0) pa_nil)))
(pss_cons (ps_set (i := 2) scLaw.nd rfl (Or.inl rfl) (pe_lst (pa_cons (pe_tup (pa_cons pe_str (pa_cons pe_str (pa_cons pe_int (pa_cons pe_int (pa_cons pe_non pa_nil)))))) (pa_cons (pe_tup (pa_cons pe_str (pa_cons pe_str (pa_cons pe_int (pa_cons pe_int (pa_cons pe_non pa_nil)))))) (pa_cons (pe_tup (pa_cons pe_str (pa_cons pe_str (pa_cons pe_int (pa_cons pe_int (pa_cons pe_int pa_nil)))))) (pa_cons (pe_tup (pa_cons pe_str (pa_cons pe_str (pa_cons pe_int (pa_cons pe_int (pa_cons pe_non pa_nil)))))) pa_nil))))))
(pss_cons (ps_set (i := 2) scLaw.nd rfl (Or.inl rfl) (pe_op op_cat (pv 2) (pe_lst (pa_cons (pe_tup (pa_cons pe_str (pa_cons pe_str (pa_cons pe_int (pa_cons pe_int (pa_cons pe_int pa_nil)))))) (pa_cons (pe_tup (pa_cons pe_str (pa_cons pe_str (pa_cons pe_int (pa_cons pe_int (pa_cons pe_int pa_nil)))))) pa_nil)))))
(pss_cons (ps_if (PW.pt (pw_or (pt_not (pt_val (pe_callG GHi hgd hr14 (by rfl) gHi kHi bHi .nil pass0 (pa_cons (pv 1) (pa_cons (pv 2) pa_nil))))) (pw_or1 (pt_cmpR op_notBl (pe_call GSx hr10 (by rfl) gSx kSx bSx .nil pass0 (pa_cons (pe_lc (own := [("row", 3)]) (g := gName 3) (tt := tYes) (by rfl) scLaw.nd (pi_list (pv 2)) (blkOk_by (own := [("row", 3)]) (N := ["script", "well", "chain", "row", "turn"]) (sc := defScope sLaw) (by decide +kernel)) (fun _ _ _ _ _ => pg_name (i := 3) scLaw.nd rfl (Or.inl rfl)) (fun _ _ _ _ _ => pts_nil) (fun _ _ _ _ _ => pe_call GM hr10 (by rfl) gM kM bM .nil pass0 (pa_cons (pv 3) pa_nil))) (pa_cons pe_int (pa_cons pe_int pa_nil)))) pe_bl (nomark _)))))
(pss_one (ps_ret pe_bl))
pss_nil)
(pss_cons (ps_if (PW.pt (pw_or (pt_cmpR (op_neD hr.units) (pe_call GT hr9 (by rfl) gT kT bT .nil pass0 (pa_cons (pe_lst pa_nil) pa_nil)) (pe_tup (pa_cons pe_non pa_nil)) (nomark _)) (pw_or (pt_cmpR (op_neD hr.units) (pe_call GT hr9 (by rfl) gT kT bT .nil pass0 (pa_cons (pe_lst (pa_cons (pe_make MK GI0 hr9 (by rfl) A.mg bI3 vI3 pass0 (pa_cons pe_str (pa_cons pe_str (pa_cons pe_int pa_nil)))) pa_nil)) pa_nil)) (pe_tup (pa_cons pe_non (pa_cons pe_int pa_nil))) (nomark _)) (pw_or1 (pt_cmpR (op_neD hr.units) (pe_call GT hr9 (by rfl) gT kT bT .nil pass0 (pa_cons (pe_lst (pa_cons (pe_make MK GI0 hr9 (by rfl) A.mg bI4 vI4 pass0 (pa_cons pe_str (pa_cons pe_str (pa_cons pe_int (pa_cons pe_int pa_nil))))) pa_nil)) pa_nil)) (pe_tup (pa_cons pe_int pa_nil)) (nomark _))))))
(pss_one (ps_ret pe_bl))
pss_nil)
(pss_cons (ps_for PassesOwn.never rfl (pi_range1 (by rfl) T.range (pa_cons pe_int pa_nil)) (pg_name (i := 4) scLaw.nd rfl (Or.inl rfl))
(pss_one (ps_if (pt_not (pt_val (pe_callG GHi hgd hr14 (by rfl) gHi kHi bHi .nil pass0 (pa_cons (pv 1) (pa_cons (pe_call GR hr3 (by rfl) gR kR bR .nil pass0 (pa_cons (pv 1) (pa_cons (pe_call GD hr1 (by rfl) gD kD bD .nil pass0 (pa_cons (pv 1) (pa_cons pe_int pa_nil))) (pa_cons (pe_call GO hr2 (by rfl) gO_ kO bO .nil pass0 (pa_cons (pv 1) (pa_cons (pe_lst (pa_cons pe_int (pa_cons pe_int (pa_cons pe_int pa_nil)))) pa_nil))) pa_nil)))) pa_nil)))))
(pss_one (ps_ret pe_bl))
pss_nil)))
(pss_one (ps_ret (pe_callG GLR hgd hr13 (by rfl) gLR kLR bLR .nil pass0 (pa_cons (pv 1) pa_nil)))))))))), ?_⟩
    refine ⟨.ref a, rfl, ?_⟩
    dsimp only [tNil]
    refine ⟨a, ns, rfl, hs, hl, fun p c cells H0 hp hc s1 pen => nx_go ?_⟩
    have tabs : LamX.Tabs T0 H0 := fun t h => LamX.TabS.nil (s1 _ _ (ht t h))
    clear s1 ht hs
    refine ⟨by show 5 ≤ sizeLine; decide, fun T0' q0 => ⟨by show 5 ≤ sizeLine; decide, fun T1 q1 => ⟨by show 5 ≤ sizeLine; decide, fun T2 q2 => ⟨by show 5 ≤ sizeLine; decide, fun T3 q3 => ⟨by show 4 ≤ sizeLine; decide, fun C1 q4 => nx_go ⟨.ref C1, rfl, by show 5 ≤ sizeLine; decide, fun T4 q5 => ⟨by show 5 ≤ sizeLine; decide, fun T5 q6 => ⟨by show 2 ≤ sizeLine; decide, fun C2 q7 => ?_⟩⟩⟩⟩⟩⟩⟩⟩
    have z0 := same_new (o := .tup [.str "a", .str "put", .int 0, .int 9, .non]) q0
    have f0 : upd H0 T0' (.tup [.str "a", .str "put", .int 0, .int 9, .non]) T0' = some (.tup [.str "a", .str "put", .int 0, .int 9, .non]) := upd_same
    generalize upd H0 T0' (.tup [.str "a", .str "put", .int 0, .int 9, .non]) = K0 at z0 f0 q1 q2 q3 q4 q5 q6 q7 ⊢
    have z1 := same_new (o := .tup [.str "c", .str "put", .int 1, .int 2, .non]) q1
    have f1 : upd K0 T1 (.tup [.str "c", .str "put", .int 1, .int 2, .non]) T1 = some (.tup [.str "c", .str "put", .int 1, .int 2, .non]) := upd_same
    generalize upd K0 T1 (.tup [.str "c", .str "put", .int 1, .int 2, .non]) = K1 at z1 f1 q2 q3 q4 q5 q6 q7 ⊢
    have z2 := same_new (o := .tup [.str "d", .str "get", .int 10, .int 11, .int 1]) q2
    have f2 : upd K1 T2 (.tup [.str "d", .str "get", .int 10, .int 11, .int 1]) T2 = some (.tup [.str "d", .str "get", .int 10, .int 11, .int 1]) := upd_same
    generalize upd K1 T2 (.tup [.str "d", .str "get", .int 10, .int 11, .int 1]) = K2 at z2 f2 q3 q4 q5 q6 q7 ⊢
    have z3 := same_new (o := .tup [.str "b", .str "put", .int 3, .int 20, .non]) q3
    have f3 : upd K2 T3 (.tup [.str "b", .str "put", .int 3, .int 20, .non]) T3 = some (.tup [.str "b", .str "put", .int 3, .int 20, .non]) := upd_same
    generalize upd K2 T3 (.tup [.str "b", .str "put", .int 3, .int 20, .non]) = K3 at z3 f3 q4 q5 q6 q7 ⊢
    have z4 := same_new (o := .lst [.ref T0', .ref T1, .ref T2, .ref T3]) q4
    have f4 : upd K3 C1 (.lst [.ref T0', .ref T1, .ref T2, .ref T3]) C1 = some (.lst [.ref T0', .ref T1, .ref T2, .ref T3]) := upd_same
    generalize upd K3 C1 (.lst [.ref T0', .ref T1, .ref T2, .ref T3]) = K4 at z4 f4 q5 q6 q7 ⊢
    have z5 := same_new (o := .tup [.str "e", .str "get", .int 0, .int 9, .int 0]) q5
    have f5 : upd K4 T4 (.tup [.str "e", .str "get", .int 0, .int 9, .int 0]) T4 = some (.tup [.str "e", .str "get", .int 0, .int 9, .int 0]) := upd_same
    generalize upd K4 T4 (.tup [.str "e", .str "get", .int 0, .int 9, .int 0]) = K5 at z5 f5 q6 q7 ⊢
    have z6 := same_new (o := .tup [.str "b", .str "get", .int 5, .int 12, .int 3]) q6
    have f6 : upd K5 T5 (.tup [.str "b", .str "get", .int 5, .int 12, .int 3]) T5 = some (.tup [.str "b", .str "get", .int 5, .int 12, .int 3]) := upd_same
    generalize upd K5 T5 (.tup [.str "b", .str "get", .int 5, .int 12, .int 3]) = K6 at z6 f6 q7 ⊢
    have z7 := same_new (o := .lst [.ref T4, .ref T5]) q7
    have f7 : upd K6 C2 (.lst [.ref T4, .ref T5]) C2 = some (.lst [.ref T4, .ref T5]) := upd_same
    generalize upd K6 C2 (.lst [.ref T4, .ref T5]) = K7 at z7 f7 ⊢
    have y6 := z6.trans z7
    have y5 := z5.trans y6
    have y4 := z4.trans y5
    have y3 := z3.trans y4
    have y2 := z2.trans y3
    have y1 := z1.trans y2
    have y0 := z0.trans y1
    refine ⟨C1, C2, _, _, rfl, rfl, y5 _ _ f4, f7, by show 6 ≤ sizeLine; decide, fun CH q8 => nx_go ?_⟩
    have z8 := same_new (o := .lst ([.ref T0', .ref T1, .ref T2, .ref T3] ++ [.ref T4, .ref T5])) q8
    have fCH : upd K7 CH (.lst ([.ref T0', .ref T1, .ref T2, .ref T3] ++ [.ref T4, .ref T5])) CH = some (.lst ([T0', T1, T2, T3, T4, T5].map V.ref)) := upd_same
    generalize upd K7 CH (.lst ([.ref T0', .ref T1, .ref T2, .ref T3] ++ [.ref T4, .ref T5])) = K8 at z8 fCH ⊢
    have rowsC : RowsAt K8 CH chainR := by
      refine ⟨[T0', T1, T2, T3, T4, T5], fCH, rfl, fun i q r e1 e2 => ?_⟩
      rcases i with _ | _ | _ | _ | _ | _ | i
      · cases e1; cases e2; exact (y1.trans z8) _ _ f0
      · cases e1; cases e2; exact (y2.trans z8) _ _ f1
      · cases e1; cases e2; exact (y3.trans z8) _ _ f2
      · cases e1; cases e2; exact (y4.trans z8) _ _ f3
      · cases e1; cases e2; exact (y6.trans z8) _ _ f5
      · cases e1; cases e2; exact (z7.trans z8) _ _ f6
      · cases e1
    have pen8 := pen.mono (y0.trans z8) (Nat.le_refl _)
    have tabs8 := tabs_same tabs (y0.trans z8)
    have nCH : CH ≠ p := ((pen.mono y0 (Nat.le_refl _)).nn q8).1
    clear y0 y1 y2 y3 y4 y5 y6 z0 z1 z2 z3 z4 z5 z6 z7 z8 f0 f1 f2 f3 f4 f5 f6 f7 fCH q0 q1 q2 q3 q4 q5 q6 q7 q8 pen tabs hp hc
    have clen : ∀ r ∈ chainR, r.c.length ≤ 1000 := fun r m => by
      have h : chainR.all (fun r => decide (r.c.length ≤ 1000)) = true := by decide +kernel
      exact of_decide_eq_true (List.all_eq_true.mp h r m)
    dsimp only
    refine ifs_go ?_
    refine ⟨.ref p, rfl, .ref CH, rfl, ?_⟩
    dsimp only [tNil]
    refine ⟨p, c, CH, cells, _, chainR, rfl, pen8, by decide, rowsC, by decide, chain_ok, chain_nb, clen, tabs8, fun H1 pen1 kn1 tabs1 => ⟨true, rfl, ?_⟩⟩
    have rows1 : RowsAt H1 CH chainR := by
      obtain ⟨ps, h1, h2, h3⟩ := rowsC
      exact ⟨ps, kn1 _ _ nCH h1 (fun _ y => nomatch y), h2, fun i q r e1 e2 => kn1 _ _ (pen8.ne_of (h3 i q r e1 e2) fun _ y => nomatch y) (h3 i q r e1 e2) fun _ y => nomatch y⟩
    clear rowsC pen8 tabs8 kn1
    obtain ⟨ps, hch, lps, hps⟩ := id rows1
    refine iteF' ⟨.ref CH, rfl, CH, rfl, ⟨_, SqL.of hch⟩, fun M hM0 => made_lc rows1 chain_ok (by decide) clen hM0 (fun _ => rfl) (fun _ => rfl) fun ms H2 am hM s2 => ?_⟩
    dsimp only [tNil, tC, tCons]
    refine ⟨M, chainR, 0, 3, rfl, ⟨ms, .inl (SqL.of hM), am.1, am.2⟩, by decide, chain_ok, chain_nb, by decide +kernel, by decide +kernel, chain_order, fun b H3 s3 hb => ?_⟩
    obtain rfl : b = true := hb.mpr chain_sure
    refine ⟨true, true, rfl, rfl, false, rfl, iteF' ?_⟩
    have pen3 := pen1.mono (s2.trans s3) (Nat.le_refl _)
    have tabs3 := tabs_same tabs1 (s2.trans s3)
    clear pen1 tabs1 hM am hM0 s2 s3 hb rows1 hch hps lps nCH
    dsimp only [tNext]
    have la : ("a" : Str).length ≤ 1000 := by decide +kernel
    -- of nothing
    refine ifs_go ?_
    refine ⟨Nat.zero_le _, fun l1 hl1 => ?_⟩
    have z1 := same_new (o := .lst []) hl1
    dsimp only [tNil]
    refine tell_small (rs := []) (fl := []) (us := [none]) rfl ⟨[], .inl (SqL.of upd_same), rfl, fun i q r e1 => (by cases e1)⟩ (by decide) (fun r m => (by cases m)) rfl nil_order (by decide +kernel) (by decide) (by decide +kernel) fun p1 H4 s4 hp1 => ?_
    refine ⟨by show 1 ≤ sizeLine; decide, fun t1 ht1 => ?_⟩
    have s5 := (z1.trans s4).trans (same_new (o := .tup [.non]) ht1)
    refine ⟨oDs [none], oDs [none], .tup (SqT.of (same_new ht1 _ _ hp1)) (ods_dp _), .tup (SqT.of upd_same) (ods_dp [none]), ods_shaped _, ods_shaped _, _, rfl, ?_⟩
    rw [eqv_ods]
    have pen5 := pen3.mono s5 (Nat.le_refl _)
    have tabs5 := tabs_same tabs3 s5
    generalize upd H4 t1 (.tup [.non]) = H5 at pen5 tabs5 ⊢
    clear pen3 tabs3 s5 s4 hp1 ht1 z1 hl1
    refine iteF' ?_
    -- of one put that has not ended
    refine fun x1 dx1 hx1 hdx1 ne1 => mk_row (r := r1R) r1_ok la hx1 hdx1 ne1 fun H6 s6 ask1 => ⟨rfl, by show 1 ≤ sizeLine; decide, fun l2 hl2 => ?_⟩
    have z2 := same_new (o := .lst [.ref x1]) hl2
    dsimp only [tNil]
    refine tell_small (rs := [r1R]) (fl := [0]) (us := [none, some 0]) rfl ⟨[x1], .inl (SqL.of upd_same), rfl, fun i q r e1 e2 => ?_⟩ (by decide) (fun r m => by rw [List.mem_singleton.mp m]; exact r1_ok) (by decide +kernel) r1_order (by decide +kernel) (by decide) (by decide +kernel) fun p2 H7 s7 hp2 => ?_
    · cases i with
      | zero => cases e1; cases e2; exact ask1.mono z2
      | succ i => cases e1
    refine ⟨by show 2 ≤ sizeLine; decide, fun t2 ht2 => ?_⟩
    have s8 := (s6.trans (z2.trans s7)).trans (same_new (o := .tup [.non, .int 0]) ht2)
    refine ⟨oDs [none, some 0], oDs [none, some 0], .tup (SqT.of (same_new ht2 _ _ hp2)) (ods_dp _), .tup (SqT.of upd_same) (ods_dp [none, some 0]), ods_shaped _, ods_shaped _, _, rfl, ?_⟩
    rw [eqv_ods]
    have pen8 := pen5.mono s8 (Nat.le_refl _)
    have tabs8 := tabs_same tabs5 s8
    generalize upd H7 t2 (.tup [.non, .int 0]) = H8 at pen8 tabs8 ⊢
    clear pen5 tabs5 s8 s7 hp2 ht2 z2 hl2 s6 ask1 hx1 hdx1 ne1
    refine iteF' ?_
    -- of one put that has ended
    refine fun x2 dx2 hx2 hdx2 ne2 => mk_row (r := r2R) r2_ok la hx2 hdx2 ne2 fun H9 s9 ask2 => ⟨rfl, by show 1 ≤ sizeLine; decide, fun l3 hl3 => ?_⟩
    have z3 := same_new (o := .lst [.ref x2]) hl3
    dsimp only [tNil]
    refine tell_small (rs := [r2R]) (fl := [0]) (us := [some 0]) rfl ⟨[x2], .inl (SqL.of upd_same), rfl, fun i q r e1 e2 => ?_⟩ (by decide) (fun r m => by rw [List.mem_singleton.mp m]; exact r2_ok) (by decide +kernel) r2_order (by decide +kernel) (by decide) (by decide +kernel) fun p3 H10 s10 hp3 => ?_
    · cases i with
      | zero => cases e1; cases e2; exact ask2.mono z3
      | succ i => cases e1
    refine ⟨by show 1 ≤ sizeLine; decide, fun t3 ht3 => ?_⟩
    have s11 := (s9.trans (z3.trans s10)).trans (same_new (o := .tup [.int 0]) ht3)
    refine ⟨oDs [some 0], oDs [some 0], .tup (SqT.of (same_new ht3 _ _ hp3)) (ods_dp _), .tup (SqT.of upd_same) (ods_dp [some 0]), ods_shaped _, ods_shaped _, _, rfl, ?_⟩
    rw [eqv_ods]
    have pen11 := (pen8.mono s11 (Nat.le_refl _)).more (show 0 + 10 ≤ 10 by decide)
    have tabs11 := tabs_same tabs8 s11
    generalize upd H10 t3 (.tup [.int 0]) = H11 at pen11 tabs11 ⊢
    clear pen8 tabs8 s11 s10 hp3 ht3 z3 hl3 s9 ask2 hx2 hdx2 ne2
    refine iteF' ?_
    dsimp only [tNext]
    refine ⟨2, rfl, by decide, by decide, for_range (n := 2) (fun i σ H' => ∃ x4, σ = [some (.ref a), some (.ref p), some (.ref CH), none, x4] ∧ PenAt H' p c cells (10 + 120 * i) ∧ LamX.Tabs T0 H') ⟨_, rfl, pen11, tabs11⟩ ?_ ?_⟩
    · rintro i σ H12 hi ⟨x4, rfl, pen12, tabs12⟩
      refine nx_go ?_
      refine ifs_go ?_
      refine ⟨.ref p, rfl, .ref p, rfl, .ref p, rfl, ?_⟩
      dsimp only [tC, tCons, tNil]
      refine ⟨p, c, cells, _, 6, rfl, pen12, by omega, by decide, by decide, fun r H13 r0 r1 pen13 kp13 => ⟨.ref p, rfl, by show 3 ≤ sizeLine; decide, fun LS hLS => ?_⟩⟩
      have sS := same_new (o := .lst [.int 3, .int 6, .int 12]) hLS
      have pen14 := pen13.mono sS (Nat.le_refl _)
      refine ⟨p, c, LS, cells, _, _, rfl, pen14, by omega, upd_same, (pen13.nn hLS).1, by show 0 < 3; decide, by show 3 ≤ 100; decide, fun j x H15 ex pen15 kp15 => ?_⟩
      obtain ⟨s, rfl, s1, s2⟩ : ∃ s : Int, x = .int s ∧ 0 < s ∧ s ≤ 1000000000000 := by
        rcases j with _ | _ | _ | j
        · exact ⟨3, (Option.some.inj ex).symm, by decide, by decide⟩
        · exact ⟨6, (Option.some.inj ex).symm, by decide, by decide⟩
        · exact ⟨12, (Option.some.inj ex).symm, by decide, by decide⟩
        · cases ex
      obtain ⟨kk, rfl⟩ : ∃ k : Nat, r = k := ⟨_, (Int.toNat_of_nonneg r0).symm⟩
      have tabs15 := tabs_kept (tabs_same (tabs_kept tabs12 pen12 kp13) sS) pen14 kp15
      refine ⟨p, c, cells, _, kk, s, rfl, pen15, by omega, by omega, s1, s2, fun R gs rs H16 hR gl rl rok rows16 pen16 kp16 => ?_⟩
      refine ⟨p, c, R, cells, _, rs, rfl, pen16, by omega, rows16, by omega, rok.ok, rok.nobad (by omega), fun r m => ?_, tabs_kept tabs15 pen15 kp16, fun H17 pen17 kn17 tabs17 => ⟨true, rfl, iteF' ⟨_, rfl, pen17.more (by omega), tabs17⟩⟩⟩
      obtain ⟨g, h⟩ := rok.row m
      exact Nat.le_trans h.short (by decide)
    · rintro σ H12 ⟨x4, rfl, pen12, tabs12⟩
      refine ⟨.ref p, rfl, ?_⟩
      dsimp only [tNil]
      exact ⟨p, c, cells, _, rfl, pen12, by decide, tabs12, q⟩
end
end K36
end

section
set_option Elab.async false
set_option linter.all false
set_option maxRecDepth 100000
set_option maxHeartbeats 4000000
/-! joined -/
namespace K36
open PySem PySem.Spec PyProof.Rows L2 KZ
abbrev args1 (x : Str) (p0 p1 : Pos) : Arguments := ⟨[], [⟨"self", none, p0⟩, ⟨x, none, p1⟩], none, [], [], none, []⟩
abbrev args2 (x y : Str) (p0 p1 p2 : Pos) : Arguments := ⟨[], [⟨"self", none, p0⟩, ⟨x, none, p1⟩, ⟨y, none, p2⟩], none, [], [], none, []⟩
section
variable {nm q : Str} {p0 p1 p2 : Pos} {body : List Stmt} {scope : Scope} {kV doc pm cdv ct s v u : Value} {an : Option Addr}
theorem b1k_part : bindArgs (PySem.W.fnOf nm q (args1 "part" p0 p1) body scope .none kV doc pm an cdv ct) ⟨[s], [("part", v)]⟩ = (pure [(("self" : Str), s), (("part" : Str), v)] : Sem (List (Str × Value))) := rfl
theorem b1p_part : bindArgs (PySem.W.fnOf nm q (args1 "part" p0 p1) body scope .none kV doc pm an cdv ct) ⟨[s, v], []⟩ = (pure [(("self" : Str), s), (("part" : Str), v)] : Sem (List (Str × Value))) := rfl
theorem b2k_what : bindArgs (PySem.W.fnOf nm q (args2 "what" "most" p0 p1 p2) body scope .none kV doc pm an cdv ct) ⟨[s], [("most", u), ("what", v)]⟩ = (pure [(("self" : Str), s), (("what" : Str), v), (("most" : Str), u)] : Sem (List (Str × Value))) := rfl
theorem b2m_what : bindArgs (PySem.W.fnOf nm q (args2 "what" "most" p0 p1 p2) body scope .none kV doc pm an cdv ct) ⟨[s, v], [("most", u)]⟩ = (pure [(("self" : Str), s), (("what" : Str), v), (("most" : Str), u)] : Sem (List (Str × Value))) := rfl
theorem b2p_what : bindArgs (PySem.W.fnOf nm q (args2 "what" "most" p0 p1 p2) body scope .none kV doc pm an cdv ct) ⟨[s, v, u], []⟩ = (pure [(("self" : Str), s), (("what" : Str), v), (("most" : Str), u)] : Sem (List (Str × Value))) := rfl
end
theorem errI_ok {K : PySem.W.Frag} {mg : Str → Option Value} {nm : Str} {C : Addr} {fs : List Str} (h : errI K C fs = true) (g : mg nm = some (.ref C)) : ErrC K mg nm C (He.ma K C "__init__") fs := by
  obtain ⟨h0, h⟩ := He.ba h
  obtain ⟨h1, h⟩ := He.ba h
  obtain ⟨h2, h⟩ := He.ba h
  obtain ⟨h3, h⟩ := He.ba h
  obtain ⟨h4, h⟩ := He.ba h
  obtain ⟨h5, h⟩ := He.ba h
  obtain ⟨h6, h7⟩ := He.ba h
  have T := errB_ok h0
  exact ⟨⟨oexB_ok h1, He.eqO_ok h2, T.be, of_decide_eq_true h3, h4⟩, T, He.eqO_ok h5, of_decide_eq_true h6, fun f hf => He.eqO_ok (List.all_eq_true.mp h7 f hf), g⟩
section
variable {P : Program} {w : World} {K : PySem.W.Frag} {mg : Str → Option Value} {base : Heap} {fC : Addr} {dC fd : FuncData}
theorem mk_BadAsk (h : errI K (He.ga K "BadAsk") ["part"] = true) (g : mg "BadAsk" = some (.ref (He.ga K "BadAsk"))) (F : Fun K "__init__" "BadAsk.__init__" (mem 8 0) (He.ma K (He.ga K "BadAsk") "__init__") fd) (T : B0 mg) (gC : mg "copied" = some (.ref fC)) (FC : Fun K "copied" "copied" sCopied fC dC) (bC : Binds K dC ["value"] []) :
    Mk1 P w K mg base "BadAsk" (He.ga K "BadAsk") "part" "part" := by
  have E := errI_ok h g
  refine ⟨_, fd, E, ok_init1 (st := mem 8 0) rfl ⟨rfl, rfl, rfl, by decide +kernel, rfl, by decide +kernel, by decide +kernel⟩ rfl rfl rfl (by decide) (by decide) F E.ox (E.no _ List.mem_cons_self) T gC FC bC, ?_, ?_⟩
  · exact F.binds (ps := ["self", "part"]) fun _ _ _ _ _ _ us hl => match us, hl with | [_, _], _ => b1p_part
  · exact kb_self F (fun _ _ _ _ _ _ _ _ => b1k_part) (fun _ _ _ _ _ _ _ _ => b1p_part)
theorem mk_Clashing (h : errI K (He.ga K "Clashing") ["part"] = true) (g : mg "Clashing" = some (.ref (He.ga K "Clashing"))) (F : Fun K "__init__" "Clashing.__init__" (mem 9 0) (He.ma K (He.ga K "Clashing") "__init__") fd) (T : B0 mg) (gC : mg "copied" = some (.ref fC)) (FC : Fun K "copied" "copied" sCopied fC dC) (bC : Binds K dC ["value"] []) :
    Mk1 P w K mg base "Clashing" (He.ga K "Clashing") "part" "part" := by
  have E := errI_ok h g
  refine ⟨_, fd, E, ok_init1 (st := mem 9 0) rfl ⟨rfl, rfl, rfl, by decide +kernel, rfl, by decide +kernel, by decide +kernel⟩ rfl rfl rfl (by decide) (by decide) F E.ox (E.no _ List.mem_cons_self) T gC FC bC, ?_, ?_⟩
  · exact F.binds (ps := ["self", "part"]) fun _ _ _ _ _ _ us hl => match us, hl with | [_, _], _ => b1p_part
  · exact kb_self F (fun _ _ _ _ _ _ _ _ => b1k_part) (fun _ _ _ _ _ _ _ _ => b1p_part)
theorem mk_TooMany (h : errI K (He.ga K "TooMany") ["what", "most"] = true) (g : mg "TooMany" = some (.ref (He.ga K "TooMany"))) (F : Fun K "__init__" "TooMany.__init__" (mem 10 0) (He.ma K (He.ga K "TooMany") "__init__") fd) (T : B0 mg) (gC : mg "copied" = some (.ref fC)) (FC : Fun K "copied" "copied" sCopied fC dC) (bC : Binds K dC ["value"] []) :
    Mk2 P w K mg base "TooMany" (He.ga K "TooMany") "what" "most" "what" "most" := by
  have E := errI_ok h g
  refine ⟨_, fd, E, ok_init2 (st := mem 10 0) rfl ⟨rfl, rfl, rfl, by decide +kernel, rfl, by decide +kernel, by decide +kernel⟩ rfl rfl rfl rfl (by decide) (by decide) (by decide) (by decide) F E.ox (E.no _ List.mem_cons_self) (E.no _ (List.mem_cons_of_mem _ List.mem_cons_self)) T gC FC bC, ?_, ?_⟩
  · exact F.binds (ps := ["self", "what", "most"]) fun _ _ _ _ _ _ us hl => match us, hl with | [_, _, _], _ => b2p_what
  · exact kb_self2 F (fun _ _ _ _ _ _ _ _ _ => b2k_what) (fun _ _ _ _ _ _ _ _ _ => b2m_what) (fun _ _ _ _ _ _ _ _ _ => b2p_what)
theorem vals_reverse {vs : List V} {us : List Value} (h : Vals vs us) : Vals vs.reverse us.reverse := by
  induction h with
  | nil => exact .nil
  | cons a _ ih =>
    rw [List.reverse_cons, List.reverse_cons]
    exact ih.append (.cons a .nil)
theorem init_f {f C cB fK : Addr} {dK : FuncData} (F : FunD K "__init__" "Ask.__init__" (defArgs sInit) (defBody sInit) (defScope sInit) [.non, .non] [] f fd) (M : Mk K C f) (G : FnOk P w K mg base (L2.CX P w) 8 f fd psI (spInit K C cB)) : InitF P w K mg base C cB := by
  refine ⟨f, fd, M, G, ?_, ?_, ?_, ?_, ?_⟩
  · obtain ⟨ds, v, b⟩ := F.binds1 (ps := psI) 6 2 (by decide) rfl fun T kV doc pm an cdv ct us its h1 h2 => match us, its, h1, h2 with
      | [_, _, _, _, _, _], [_, _], _, _ => ⟨_, rfl, rfl⟩
    cases v
    exact b
  · exact F.binds1 (ps := psI) 5 1 (by decide) rfl fun T kV doc pm an cdv ct us its h1 h2 => match us, its, h1, h2 with
      | [_, _, _, _, _], [_, _], _, _ => ⟨_, rfl, rfl⟩
  · exact F.binds1 (ps := psI) 4 0 (by decide) rfl fun T kV doc pm an cdv ct us its h1 h2 => match us, its, h1, h2 with
      | [_, _, _, _], [_, _], _, _ => ⟨_, rfl, rfl⟩
  · obtain ⟨its, k⟩ := F.kbindsD (ps := psI) 1 ["told", "ended", "begun", "word", "client"] (fun us _ ws => us ++ ws.reverse) (by decide) (fun a _ b => a.append (vals_reverse b)) fun T kV doc pm an cdv ct us its ws h1 h2 h3 => match us, its, ws, h1, h2, h3 with
      | [_], [_, _], [_, _, _, _, _], _, _, _ => ⟨_, rfl, rfl⟩
    exact ⟨_, k⟩
  · obtain ⟨its, k⟩ := F.kbindsD (ps := psI) 4 ["ended", "told"] (fun us _ ws => us ++ ws) (by decide) (fun a _ b => a.append b) fun T kV doc pm an cdv ct us its ws h1 h2 h3 => match us, its, ws, h1, h2, h3 with
      | [_, _, _, _], [_, _], [_, _], _, _, _ => ⟨_, rfl, rfl⟩
    exact ⟨_, k⟩
theorem zones_x {C cB cT f : Addr} (G : FnOk P w K mg base (L2.CX P w) 8 f fd ["asks"] (spZones K C cB cT)) : FnOk P w K mg base CX0 8 f fd ["asks"] (spZonesX K C) :=
  (FnOk.x0 G).imp fun vs H Q E ⟨a, rs, e, hist, hl, ok, nb, q⟩ => ⟨.ref a, e, .inr (.inr ⟨a, rs, rfl, hist, by omega, ok, fun z => absurd z (by omega), (fun _ i hi => by rw [nb] at hi; cases hi), fun _ _ => q⟩)⟩
theorem ahead_x {C cB f : Addr} (G : FnOk P w K mg base (L2.CX P w) 7 f fd ["self", "other"] (spAhead K C cB)) : FnOk P w K mg base CX0 7 f fd ["self", "other"] (spAheadX C) :=
  (FnOk.x0 G).imp fun vs H Q E ⟨a, r, b, s, e, ha, hb, q⟩ => ⟨a, r, .ref b, e, ha, .inl ⟨b, s, rfl, hb, q⟩⟩
theorem tell_x {C cB cT f : Addr} (G : FnOk P w K mg base (L2.CX P w) 9 f fd ["asks"] (spTellable K C cB cT)) : FnOk P w K mg base CX0 9 f fd ["asks"] (spTellX K C) :=
  (FnOk.x0 G).imp fun vs H Q E ⟨a, rs, e, hist, hl, ok, nb, q⟩ => ⟨.ref a, e, .inr (.inr ⟨a, rs, rfl, hist, by omega, ok, fun z => absurd z (by omega), (fun _ i hi => by rw [nb] at hi; cases hi), fun _ _ => q⟩)⟩
theorem sure_x {C cB cT cC f : Addr} (G : FnOk P w K mg base (L2.CX P w) 10 f fd ["asks", "one", "other"] (spSurely K C cB cT cC)) : FnOk P w K mg base CX0 10 f fd ["asks", "one", "other"] (spSureX K C) :=
  (FnOk.x0 G).imp fun vs H Q E ⟨a, rs, i, j, e, hist, hl, ok, nb, mi, mj, od, q⟩ => ⟨.ref a, .int i, .int j, .int i, .int j, e, .int _, .int _, .inr (.inr ⟨a, rs, rfl, hist, by omega, ok, fun z => absurd z (by omega), (fun _ i hi => by rw [nb] at hi; cases hi), fun _ _ =>
    ⟨fun z => absurd (List.any_eq_true.mpr ⟨i, mi, decide_eq_true rfl⟩) (by rw [show (partsOf rs).any (fun (n : Nat) => decide ((n : Int) = (i : Int))) = false from z]; exact fun y => nomatch y), fun _ z => absurd (List.any_eq_true.mpr ⟨j, mj, decide_eq_true rfl⟩) (by rw [show (partsOf rs).any (fun (n : Nat) => decide ((n : Int) = (j : Int))) = false from z]; exact fun y => nomatch y), fun i' j' e1 e2 mi' mj' => by
      obtain rfl : i' = i := (Int.ofNat.inj (PyData.int.inj e1)).symm
      obtain rfl : j' = j := (Int.ofNat.inj (PyData.int.inj e2)).symm
      exact ⟨fun no => absurd od no, fun _ => q⟩⟩⟩)⟩
theorem vals_swap {vs zs : List V} {us ws : List Value} (h1 : Vals vs us) (h2 : Vals zs ws) : Vals (swap3 vs zs) (swap3 us ws) := by
  cases h1 with
  | cons _ _ => exact .nil
  | nil =>
    cases h2 with
    | nil => exact .nil
    | cons a h2 =>
      cases h2 with
      | nil => exact .nil
      | cons b h2 =>
        cases h2 with
        | nil => exact .nil
        | cons c h2 =>
          cases h2 with
          | nil => exact .cons a (.cons c (.cons b .nil))
          | cons _ _ => exact .nil
theorem kb_swap {x qual p q r : Str} {st : Stmt} {f : Addr} (F : Fun K x qual st f fd) (h0 : ∀ (kV doc pm : Value) (an : Option Addr) (cdv ct s v u : Value), bindArgs (FN x qual st kV doc pm an cdv ct) ⟨[], [(p, s), (r, u), (q, v)]⟩ = pure [(p, s), (q, v), (r, u)]) : KBinds K fd [p, q, r] [p, r, q] swap3 swap3 := by
  obtain ⟨oc, od, kV, doc, pm, an, cdv, ct, osl, rfl, _⟩ := F.ex
  refine ⟨fun s us ws _ hl => ?_, fun a b => vals_swap a b⟩
  match us, ws, hl with
  | [], [a, b, c], _ => exact .of_eq (h0 kV doc pm an cdv ct a c b)
end
theorem code_eq {K : PySem.W.Frag} {x qual : Str} {st : Stmt} {p : He.Defn} {fd : FuncData} (F : Fun K x qual st (He.fAd K p) fd) : fd.code = .ref (He.codeOf K p) := by
  obtain ⟨oc, od, kV, doc, pm, an, cdv, ct, osl, rfl, lk, hcd⟩ := F.ex
  show cdv = _
  cases cdv with
  | ref c => rw [He.codeOf_eq lk (c := c) rfl]
  | _ => cases hcd
def qP : Str := ("_law_pairs_right" : Str) ++ ".<locals>."
def qR : Str := ("_law_refused_right" : Str) ++ ".<locals>."
def qL : Str := ("_law_led_right" : Str) ++ ".<locals>."
def T0s (K : PySem.W.Frag) : List (Addr × Str) := [(tP K, qP ++ "<lambda>"), (tR K, qR ++ "<lambda>"), (tL K, qL ++ "<lambda>")]
theorem nbeq {a b : Addr} (h : (!(Nat.beq a b)) = true) : a ≠ b := fun z => by
  rw [z, Nat.beq_refl] at h
  cases h
theorem joined {w : World} {mg : Str → Option Value} {fa : Addr} {h : Heap} {K : PySem.W.Frag} (X : K.In h) (G : h.Ns mainGlobals mg) (hfa : mg "law" = some (.ref fa)) (c : He.SaysX fas fns [] tfs exC w h K) :
    LawG PySem.Challenge.rw_stayopen_k36_surely_and_tellable w K 15 63 "script" mg fa h := by
  have cD : He.SaysD fas fns K := congrArg Prod.fst c.t
  obtain ⟨eB, hx⟩ := He.ba c.more
  obtain ⟨eC, hx⟩ := He.ba hx
  obtain ⟨eT, hx⟩ := He.ba hx
  obtain ⟨hk_, hx⟩ := He.ba hx
  obtain ⟨hA, hP⟩ := He.ba hx
  obtain ⟨hA1, hA⟩ := He.ba hA
  obtain ⟨hA2, hA⟩ := He.ba hA
  obtain ⟨hA3, hA⟩ := He.ba hA
  obtain ⟨hA4, hA5⟩ := He.ba hA
  obtain ⟨hP1, hP⟩ := He.ba hP
  obtain ⟨hP2, hP3⟩ := He.ba hP
  have nPR := nbeq hP1
  have nPL := nbeq hP2
  have nRL := nbeq hP3
  have kit : ∀ (i : Nat) x, (kits K)[i]? = some x → PySem.W.kitOne K x.1 x.2.1 = some x.2.2 := fun i x e => of_decide_eq_true (List.all_eq_true.mp hk_ x (List.mem_of_getElem? e))
  have g_is_integer := He.glo_ok X G (cD.fact 0 (f := .glo "is_integer") rfl)
  have g_is_name := He.glo_ok X G (cD.fact 1 (f := .glo "is_name") rfl)
  have g_copied := He.glo_ok X G (cD.fact 2 (f := .glo "copied") rfl)
  have g_check_ask := He.glo_ok X G (cD.fact 3 (f := .glo "check_ask") rfl)
  have g_is_count := He.glo_ok X G (cD.fact 4 (f := .glo "is_count") rfl)
  have g_need_asks := He.glo_ok X G (cD.fact 5 (f := .glo "need_asks") rfl)
  have g_told_lots := He.glo_ok X G (cD.fact 6 (f := .glo "told_lots") rfl)
  have g_parts_of := He.glo_ok X G (cD.fact 7 (f := .glo "parts_of") rfl)
  have g_zones := He.glo_ok X G (cD.fact 8 (f := .glo "zones") rfl)
  have g_surely := He.glo_ok X G (cD.fact 9 (f := .glo "surely") rfl)
  have g_tellable := He.glo_ok X G (cD.fact 10 (f := .glo "tellable") rfl)
  have g_lot_of := He.glo_ok X G (cD.fact 11 (f := .glo "lot_of") rfl)
  have g_gets_ahead_of_puts := He.glo_ok X G (cD.fact 12 (f := .glo "gets_ahead_of_puts") rfl)
  have g_lots_at_odds := He.glo_ok X G (cD.fact 13 (f := .glo "lots_at_odds") rfl)
  have g_need_order := He.glo_ok X G (cD.fact 14 (f := .glo "need_order") rfl)
  have g_is_lot_ahead := He.glo_ok X G (cD.fact 15 (f := .glo "is_lot_ahead") rfl)
  have g_can_be_last := He.glo_ok X G (cD.fact 16 (f := .glo "can_be_last") rfl)
  have g__law_well := He.glo_ok X G (cD.fact 17 (f := .glo "_law_well") rfl)
  have g__law_draw := He.glo_ok X G (cD.fact 18 (f := .glo "_law_draw") rfl)
  have g__law_one := He.glo_ok X G (cD.fact 19 (f := .glo "_law_one") rfl)
  have g__law_rows := He.glo_ok X G (cD.fact 20 (f := .glo "_law_rows") rfl)
  have g__law_made := He.glo_ok X G (cD.fact 21 (f := .glo "_law_made") rfl)
  have g__law_parts := He.glo_ok X G (cD.fact 22 (f := .glo "_law_parts") rfl)
  have g__law_ahead := He.glo_ok X G (cD.fact 23 (f := .glo "_law_ahead") rfl)
  have g__law_orders := He.glo_ok X G (cD.fact 24 (f := .glo "_law_orders") rfl)
  have g__law_heard := He.glo_ok X G (cD.fact 25 (f := .glo "_law_heard") rfl)
  have g__law_no_history := He.glo_ok X G (cD.fact 26 (f := .glo "_law_no_history") rfl)
  have g__law_zones := He.glo_ok X G (cD.fact 27 (f := .glo "_law_zones") rfl)
  have g__law_led := He.glo_ok X G (cD.fact 28 (f := .glo "_law_led") rfl)
  have g__law_pairs_right := He.glo_ok X G (cD.fact 29 (f := .glo "_law_pairs_right") rfl)
  have g__law_further_right := He.glo_ok X G (cD.fact 30 (f := .glo "_law_further_right") rfl)
  have g__law_refused_right := He.glo_ok X G (cD.fact 31 (f := .glo "_law_refused_right") rfl)
  have g__law_ahead_of := He.glo_ok X G (cD.fact 32 (f := .glo "_law_ahead_of") rfl)
  have g__law_sure := He.glo_ok X G (cD.fact 33 (f := .glo "_law_sure") rfl)
  have g__law_led_right := He.glo_ok X G (cD.fact 34 (f := .glo "_law_led_right") rfl)
  have g__law_history_right := He.glo_ok X G (cD.fact 35 (f := .glo "_law_history_right") rfl)
  have g_law := He.glo_ok X G (cD.fact 36 (f := .glo "law") rfl)
  have g_OpenError := He.glo_ok X G (cD.fact 37 (f := .glo "OpenError") rfl)
  have g_BadAsk := He.glo_ok X G (cD.fact 38 (f := .glo "BadAsk") rfl)
  have g_Clashing := He.glo_ok X G (cD.fact 39 (f := .glo "Clashing") rfl)
  have g_TooMany := He.glo_ok X G (cD.fact 40 (f := .glo "TooMany") rfl)
  have g_Ask := He.glo_ok X G (cD.fact 41 (f := .glo "Ask") rfl)
  have z_isinstance := He.free_ok X G (cD.fact 42 (f := .free "isinstance") rfl)
  have z_int := He.free_ok X G (cD.fact 43 (f := .free "int") rfl)
  have z_bool := He.free_ok X G (cD.fact 44 (f := .free "bool") rfl)
  have z_str := He.free_ok X G (cD.fact 45 (f := .free "str") rfl)
  have z_len := He.free_ok X G (cD.fact 46 (f := .free "len") rfl)
  have z_all := He.free_ok X G (cD.fact 47 (f := .free "all") rfl)
  have z_list := He.free_ok X G (cD.fact 48 (f := .free "list") rfl)
  have z_tuple := He.free_ok X G (cD.fact 49 (f := .free "tuple") rfl)
  have z_dict := He.free_ok X G (cD.fact 50 (f := .free "dict") rfl)
  have z_range := He.free_ok X G (cD.fact 51 (f := .free "range") rfl)
  have z_max := He.free_ok X G (cD.fact 52 (f := .free "max") rfl)
  have z_min := He.free_ok X G (cD.fact 53 (f := .free "min") rfl)
  have z_sorted := He.free_ok X G (cD.fact 54 (f := .free "sorted") rfl)
  have z_repr := He.free_ok X G (cD.fact 55 (f := .free "repr") rfl)
  have z_abs := He.free_ok X G (cD.fact 56 (f := .free "abs") rfl)
  have z_enumerate := He.free_ok X G (cD.fact 57 (f := .free "enumerate") rfl)
  have cMost := He.int_ok X G (cD.fact 58 (f := .int "MOST_ASKS" 1000) rfl)
  have cLets := He.str_ok X G (cD.fact 59 (f := .str "LETTERS" "abcdefghijklmnopqrstuvwxyz") rfl)
  have mAsk := He.mkr_ok (cD.fact 60 (f := .mkr "Ask") rfl)
  have x_BadAsk := He.exm_ok (cD.fact 61 (f := .exm "BadAsk" "OpenError" true) rfl)
  have x_TooMany := He.exm_ok (cD.fact 62 (f := .exm "TooMany" "OpenError" true) rfl)
  have x_Clashing := He.exm_ok (cD.fact 63 (f := .exm "Clashing" "OpenError" true) rfl)
  have clA := He.cls_ok (cD.fact 64 (f := .cls "Ask") rfl)
  have na_client := He.noat_ok (cD.fact 65 (f := .noat "Ask" "client") rfl)
  have na_word := He.noat_ok (cD.fact 66 (f := .noat "Ask" "word") rfl)
  have na_begun := He.noat_ok (cD.fact 67 (f := .noat "Ask" "begun") rfl)
  have na_ended := He.noat_ok (cD.fact 68 (f := .noat "Ask" "ended") rfl)
  have na_told := He.noat_ok (cD.fact 69 (f := .noat "Ask" "told") rfl)
  have me_is_ahead := He.meth_ok (cD.fact 70 (f := .meth "Ask" "is_ahead") rfl)
  obtain ⟨d_is_integer, F_is_integer⟩ := cD.def_ 0 rfl
  have F_is_integer : Fun K "is_integer" "is_integer" (top 2) (He.ga K "is_integer") d_is_integer := fun_of F_is_integer
  have b_is_integer := F_is_integer.binds (ps := ["value"]) fun _ _ _ _ _ _ us hl => match us, hl with | [_], _ => rfl
  obtain ⟨d_is_name, F_is_name⟩ := cD.def_ 1 rfl
  have F_is_name : Fun K "is_name" "is_name" (top 3) (He.ga K "is_name") d_is_name := fun_of F_is_name
  have b_is_name := F_is_name.binds (ps := ["value"]) fun _ _ _ _ _ _ us hl => match us, hl with | [_], _ => rfl
  obtain ⟨d_copied, F_copied⟩ := cD.def_ 2 rfl
  have F_copied : Fun K "copied" "copied" (top 5) (He.ga K "copied") d_copied := fun_of F_copied
  have b_copied := F_copied.binds (ps := ["value"]) fun _ _ _ _ _ _ us hl => match us, hl with | [_], _ => rfl
  obtain ⟨d_check_ask, F_check_ask⟩ := cD.def_ 3 rfl
  have F_check_ask : Fun K "check_ask" "check_ask" (top 15) (He.ga K "check_ask") d_check_ask := fun_of F_check_ask
  have b_check_ask := F_check_ask.binds (ps := ["client", "word", "begun", "ended", "told"]) fun _ _ _ _ _ _ us hl => match us, hl with | [_, _, _, _, _], _ => rfl
  obtain ⟨d_is_count, F_is_count⟩ := cD.def_ 4 rfl
  have F_is_count : Fun K "is_count" "is_count" (top 16) (He.ga K "is_count") d_is_count := fun_of F_is_count
  have b_is_count := F_is_count.binds (ps := ["value"]) fun _ _ _ _ _ _ us hl => match us, hl with | [_], _ => rfl
  obtain ⟨d_need_asks, F_need_asks⟩ := cD.def_ 5 rfl
  have F_need_asks : Fun K "need_asks" "need_asks" (top 17) (He.ga K "need_asks") d_need_asks := fun_of F_need_asks
  have b_need_asks := F_need_asks.binds (ps := ["asks"]) fun _ _ _ _ _ _ us hl => match us, hl with | [_], _ => rfl
  obtain ⟨d_told_lots, F_told_lots⟩ := cD.def_ 6 rfl
  have F_told_lots : Fun K "told_lots" "told_lots" (top 18) (He.ga K "told_lots") d_told_lots := fun_of F_told_lots
  have b_told_lots := F_told_lots.binds (ps := ["asks"]) fun _ _ _ _ _ _ us hl => match us, hl with | [_], _ => rfl
  obtain ⟨d_parts_of, F_parts_of⟩ := cD.def_ 7 rfl
  have F_parts_of : Fun K "parts_of" "parts_of" (top 19) (He.ga K "parts_of") d_parts_of := fun_of F_parts_of
  have b_parts_of := F_parts_of.binds (ps := ["asks"]) fun _ _ _ _ _ _ us hl => match us, hl with | [_], _ => rfl
  obtain ⟨d_zones, F_zones⟩ := cD.def_ 8 rfl
  have F_zones : Fun K "zones" "zones" (top 14) (He.ga K "zones") d_zones := fun_of F_zones
  have b_zones := F_zones.binds (ps := ["asks"]) fun _ _ _ _ _ _ us hl => match us, hl with | [_], _ => rfl
  obtain ⟨d_surely, F_surely⟩ := cD.def_ 9 rfl
  have F_surely : Fun K "surely" "surely" (top 21) (He.ga K "surely") d_surely := fun_of F_surely
  have b_surely := F_surely.binds (ps := ["asks", "one", "other"]) fun _ _ _ _ _ _ us hl => match us, hl with | [_, _, _], _ => rfl
  obtain ⟨d_tellable, F_tellable⟩ := cD.def_ 10 rfl
  have F_tellable : Fun K "tellable" "tellable" (top 22) (He.ga K "tellable") d_tellable := fun_of F_tellable
  have b_tellable := F_tellable.binds (ps := ["asks"]) fun _ _ _ _ _ _ us hl => match us, hl with | [_], _ => rfl
  obtain ⟨d_lot_of, F_lot_of⟩ := cD.def_ 11 rfl
  have F_lot_of : Fun K "lot_of" "lot_of" (top 23) (He.ga K "lot_of") d_lot_of := fun_of F_lot_of
  have b_lot_of := F_lot_of.binds (ps := ["asks", "at"]) fun _ _ _ _ _ _ us hl => match us, hl with | [_, _], _ => rfl
  obtain ⟨d_gets_ahead_of_puts, F_gets_ahead_of_puts⟩ := cD.def_ 12 rfl
  have F_gets_ahead_of_puts : Fun K "gets_ahead_of_puts" "gets_ahead_of_puts" (top 24) (He.ga K "gets_ahead_of_puts") d_gets_ahead_of_puts := fun_of F_gets_ahead_of_puts
  have b_gets_ahead_of_puts := F_gets_ahead_of_puts.binds (ps := ["asks"]) fun _ _ _ _ _ _ us hl => match us, hl with | [_], _ => rfl
  obtain ⟨d_lots_at_odds, F_lots_at_odds⟩ := cD.def_ 13 rfl
  have F_lots_at_odds : Fun K "lots_at_odds" "lots_at_odds" (top 25) (He.ga K "lots_at_odds") d_lots_at_odds := fun_of F_lots_at_odds
  have b_lots_at_odds := F_lots_at_odds.binds (ps := ["told"]) fun _ _ _ _ _ _ us hl => match us, hl with | [_], _ => rfl
  obtain ⟨d_need_order, F_need_order⟩ := cD.def_ 14 rfl
  have F_need_order : Fun K "need_order" "need_order" (top 26) (He.ga K "need_order") d_need_order := fun_of F_need_order
  have b_need_order := F_need_order.binds (ps := ["asks"]) fun _ _ _ _ _ _ us hl => match us, hl with | [_], _ => rfl
  obtain ⟨d_is_lot_ahead, F_is_lot_ahead⟩ := cD.def_ 15 rfl
  have F_is_lot_ahead : Fun K "is_lot_ahead" "is_lot_ahead" (top 27) (He.ga K "is_lot_ahead") d_is_lot_ahead := fun_of F_is_lot_ahead
  have b_is_lot_ahead := F_is_lot_ahead.binds (ps := ["told", "one", "other"]) fun _ _ _ _ _ _ us hl => match us, hl with | [_, _, _], _ => rfl
  obtain ⟨d_can_be_last, F_can_be_last⟩ := cD.def_ 16 rfl
  have F_can_be_last : Fun K "can_be_last" "can_be_last" (top 28) (He.ga K "can_be_last") d_can_be_last := fun_of F_can_be_last
  have b_can_be_last := F_can_be_last.binds (ps := ["told", "row"]) fun _ _ _ _ _ _ us hl => match us, hl with | [_, _], _ => rfl
  obtain ⟨d_l_well, F_l_well⟩ := cD.def_ 17 rfl
  have F_l_well : Fun K "_law_well" "_law_well" (top 30) (He.ga K "_law_well") d_l_well := fun_of F_l_well
  have b_l_well := F_l_well.binds (ps := ["script"]) fun _ _ _ _ _ _ us hl => match us, hl with | [_], _ => rfl
  obtain ⟨d_l_draw, F_l_draw⟩ := cD.def_ 18 rfl
  have F_l_draw : Fun K "_law_draw" "_law_draw" (top 31) (He.ga K "_law_draw") d_l_draw := fun_of F_l_draw
  have b_l_draw := F_l_draw.binds (ps := ["well", "many"]) fun _ _ _ _ _ _ us hl => match us, hl with | [_, _], _ => rfl
  obtain ⟨d_l_one, F_l_one⟩ := cD.def_ 19 rfl
  have F_l_one : Fun K "_law_one" "_law_one" (top 32) (He.ga K "_law_one") d_l_one := fun_of F_l_one
  have b_l_one := F_l_one.binds (ps := ["well", "some"]) fun _ _ _ _ _ _ us hl => match us, hl with | [_, _], _ => rfl
  obtain ⟨d_l_rows, F_l_rows⟩ := cD.def_ 20 rfl
  have F_l_rows : Fun K "_law_rows" "_law_rows" (top 33) (He.ga K "_law_rows") d_l_rows := fun_of F_l_rows
  have b_l_rows := F_l_rows.binds (ps := ["well", "many", "span"]) fun _ _ _ _ _ _ us hl => match us, hl with | [_, _, _], _ => rfl
  obtain ⟨d_l_made, F_l_made⟩ := cD.def_ 21 rfl
  have F_l_made : Fun K "_law_made" "_law_made" (top 34) (He.ga K "_law_made") d_l_made := fun_of F_l_made
  have b_l_made := F_l_made.binds (ps := ["row"]) fun _ _ _ _ _ _ us hl => match us, hl with | [_], _ => rfl
  obtain ⟨d_l_parts, F_l_parts⟩ := cD.def_ 22 rfl
  have F_l_parts : Fun K "_law_parts" "_law_parts" (top 35) (He.ga K "_law_parts") d_l_parts := fun_of F_l_parts
  have b_l_parts := F_l_parts.binds (ps := ["rows"]) fun _ _ _ _ _ _ us hl => match us, hl with | [_], _ => rfl
  obtain ⟨d_l_ahead, F_l_ahead⟩ := cD.def_ 23 rfl
  have F_l_ahead : Fun K "_law_ahead" "_law_ahead" (top 36) (He.ga K "_law_ahead") d_l_ahead := fun_of F_l_ahead
  have b_l_ahead := F_l_ahead.binds (ps := ["one", "other"]) fun _ _ _ _ _ _ us hl => match us, hl with | [_, _], _ => rfl
  obtain ⟨d_l_orders, F_l_orders⟩ := cD.def_ 24 rfl
  have F_l_orders : Fun K "_law_orders" "_law_orders" (top 37) (He.ga K "_law_orders") d_l_orders := fun_of F_l_orders
  have b_l_orders := F_l_orders.binds (ps := ["rows"]) fun _ _ _ _ _ _ us hl => match us, hl with | [_], _ => rfl
  obtain ⟨d_l_heard, F_l_heard⟩ := cD.def_ 25 rfl
  have F_l_heard : Fun K "_law_heard" "_law_heard" (top 38) (He.ga K "_law_heard") d_l_heard := fun_of F_l_heard
  have b_l_heard := F_l_heard.binds (ps := ["work"]) fun _ _ _ _ _ _ us hl => match us, hl with | [_], _ => rfl
  obtain ⟨d_l_no_history, F_l_no_history⟩ := cD.def_ 26 rfl
  have F_l_no_history : Fun K "_law_no_history" "_law_no_history" (top 39) (He.ga K "_law_no_history") d_l_no_history := fun_of F_l_no_history
  have b_l_no_history := F_l_no_history.binds (ps := ["well"]) fun _ _ _ _ _ _ us hl => match us, hl with | [_], _ => rfl
  obtain ⟨d_l_zones, F_l_zones⟩ := cD.def_ 27 rfl
  have F_l_zones : Fun K "_law_zones" "_law_zones" (top 40) (He.ga K "_law_zones") d_l_zones := fun_of F_l_zones
  have b_l_zones := F_l_zones.binds (ps := ["rows"]) fun _ _ _ _ _ _ us hl => match us, hl with | [_], _ => rfl
  obtain ⟨d_l_led, F_l_led⟩ := cD.def_ 28 rfl
  have F_l_led : Fun K "_law_led" "_law_led" (top 41) (He.ga K "_law_led") d_l_led := fun_of F_l_led
  have b_l_led := F_l_led.binds (ps := ["well", "many", "spread"]) fun _ _ _ _ _ _ us hl => match us, hl with | [_, _, _], _ => rfl
  obtain ⟨d_l_pairs_right, F_l_pairs_right⟩ := cD.def_ 29 rfl
  have F_l_pairs_right : Fun K "_law_pairs_right" "_law_pairs_right" (top 42) (He.ga K "_law_pairs_right") d_l_pairs_right := fun_of F_l_pairs_right
  have b_l_pairs_right := F_l_pairs_right.binds (ps := ["rows", "orders"]) fun _ _ _ _ _ _ us hl => match us, hl with | [_, _], _ => rfl
  obtain ⟨d_l_further_right, F_l_further_right⟩ := cD.def_ 30 rfl
  have F_l_further_right : Fun K "_law_further_right" "_law_further_right" (top 43) (He.ga K "_law_further_right") d_l_further_right := fun_of F_l_further_right
  have b_l_further_right := F_l_further_right.binds (ps := ["rows"]) fun _ _ _ _ _ _ us hl => match us, hl with | [_], _ => rfl
  obtain ⟨d_l_refused_right, F_l_refused_right⟩ := cD.def_ 31 rfl
  have F_l_refused_right : Fun K "_law_refused_right" "_law_refused_right" (top 44) (He.ga K "_law_refused_right") d_l_refused_right := fun_of F_l_refused_right
  have b_l_refused_right := F_l_refused_right.binds (ps := ["well", "rows"]) fun _ _ _ _ _ _ us hl => match us, hl with | [_, _], _ => rfl
  obtain ⟨d_l_ahead_of, F_l_ahead_of⟩ := cD.def_ 32 rfl
  have F_l_ahead_of : Fun K "_law_ahead_of" "_law_ahead_of" (top 45) (He.ga K "_law_ahead_of") d_l_ahead_of := fun_of F_l_ahead_of
  have b_l_ahead_of := F_l_ahead_of.binds (ps := ["rows", "one"]) fun _ _ _ _ _ _ us hl => match us, hl with | [_, _], _ => rfl
  obtain ⟨d_l_sure, F_l_sure⟩ := cD.def_ 33 rfl
  have F_l_sure : Fun K "_law_sure" "_law_sure" (top 46) (He.ga K "_law_sure") d_l_sure := fun_of F_l_sure
  have b_l_sure := F_l_sure.binds (ps := ["rows", "one", "other"]) fun _ _ _ _ _ _ us hl => match us, hl with | [_, _, _], _ => rfl
  obtain ⟨d_l_led_right, F_l_led_right⟩ := cD.def_ 34 rfl
  have F_l_led_right : Fun K "_law_led_right" "_law_led_right" (top 47) (He.ga K "_law_led_right") d_l_led_right := fun_of F_l_led_right
  have b_l_led_right := F_l_led_right.binds (ps := ["well"]) fun _ _ _ _ _ _ us hl => match us, hl with | [_], _ => rfl
  obtain ⟨d_l_history_right, F_l_history_right⟩ := cD.def_ 35 rfl
  have F_l_history_right : Fun K "_law_history_right" "_law_history_right" (top 48) (He.ga K "_law_history_right") d_l_history_right := fun_of F_l_history_right
  have b_l_history_right := F_l_history_right.binds (ps := ["well", "rows"]) fun _ _ _ _ _ _ us hl => match us, hl with | [_, _], _ => rfl
  obtain ⟨d_law, F_law⟩ := cD.def_ 36 rfl
  have F_law : Fun K "law" "law" (top 49) (He.ga K "law") d_law := fun_of F_law
  have b_law := F_law.binds (ps := ["script"]) fun _ _ _ _ _ _ us hl => match us, hl with | [_], _ => rfl
  obtain ⟨d_eB, F_eB⟩ := cD.def_ 37 rfl
  have F_eB : Fun K "__init__" "BadAsk.__init__" (mem 8 0) (He.ma K (He.ga K "BadAsk") "__init__") d_eB := fun_of F_eB
  obtain ⟨d_eC, F_eC⟩ := cD.def_ 38 rfl
  have F_eC : Fun K "__init__" "Clashing.__init__" (mem 9 0) (He.ma K (He.ga K "Clashing") "__init__") d_eC := fun_of F_eC
  obtain ⟨d_eT, F_eT⟩ := cD.def_ 39 rfl
  have F_eT : Fun K "__init__" "TooMany.__init__" (mem 10 0) (He.ma K (He.ga K "TooMany") "__init__") d_eT := fun_of F_eT
  obtain ⟨d_aI, F_aI⟩ := cD.def_ 40 rfl
  have F_aI : FunD K "__init__" "Ask.__init__" (defArgs sInit) (defBody sInit) (defScope sInit) [.non, .non] [] (He.ma K (He.ga K "Ask") "__init__") d_aI := F_aI
  obtain ⟨d_aA, F_aA⟩ := cD.def_ 41 rfl
  have F_aA : Fun K "is_ahead" "Ask.is_ahead" sAhead (He.ma K (He.ga K "Ask") "is_ahead") d_aA := fun_of F_aA
  have b_aA := F_aA.binds (ps := ["self", "other"]) fun _ _ _ _ _ _ us hl => match us, hl with | [_, _], _ => rfl
  have TB0 : B0 mg := ⟨z_isinstance, z_int, z_bool, z_str, z_len, z_all, z_list, z_tuple, z_dict⟩
  have T : B1 mg := ⟨TB0, z_range, z_max, z_min, z_sorted, z_repr, z_abs, z_enumerate⟩
  have C : C0 mg _ := ⟨cLets, g_is_integer⟩
  have no7 : ∀ (T : String), T ∈ ["NoneType", "bool", "int", "str", "list", "tuple", "dict"] → PySem.W.kitOne K (.type T) (.ref (He.ga K "Ask")) = some false := fun T m => by
    rcases List.mem_cons.mp m with rfl | m
    · exact kit 7 _ rfl
    rcases List.mem_cons.mp m with rfl | m
    · exact kit 8 _ rfl
    rcases List.mem_cons.mp m with rfl | m
    · exact kit 9 _ rfl
    rcases List.mem_cons.mp m with rfl | m
    · exact kit 10 _ rfl
    rcases List.mem_cons.mp m with rfl | m
    · exact kit 11 _ rfl
    rcases List.mem_cons.mp m with rfl | m
    · exact kit 12 _ rfl
    rcases List.mem_cons.mp m with rfl | m
    · exact kit 13 _ rfl
    cases m
  have A : AskC K mg (He.ga K "Ask") := ⟨g_Ask, clA, na_client, na_word, na_begun, na_ended, na_told, fun H a dx fs e => .ins e clA (He.eqO_ok hA1) (He.eqO_ok hA2) (of_decide_eq_true hA3) (of_decide_eq_true hA4), kit 6 _ rfl, no7⟩
  have NL : NoLT K (He.ga K "Ask") := by
    refine ⟨fun T m => ?_, kit 14 _ rfl, kit 15 _ rfl⟩
    rcases List.mem_cons.mp m with rfl | m
    · exact ⟨kit 16 _ rfl, kit 17 _ rfl⟩
    rcases List.mem_cons.mp m with rfl | m
    · exact ⟨kit 18 _ rfl, kit 19 _ rfl⟩
    rcases List.mem_cons.mp m with rfl | m
    · exact ⟨kit 20 _ rfl, kit 21 _ rfl⟩
    rcases List.mem_cons.mp m with rfl | m
    · exact ⟨kit 22 _ rfl, kit 23 _ rfl⟩
    rcases List.mem_cons.mp m with rfl | m
    · exact ⟨kit 24 _ rfl, kit 25 _ rfl⟩
    cases m
  have EB : HErr K (He.ga K "OpenError") (He.ga K "BadAsk") (He.ga K "TooMany") (He.ga K "Clashing") := ⟨(errI_ok eB g_BadAsk).ex, (errI_ok eT g_TooMany).ex, (errI_ok eC g_Clashing).ex, x_BadAsk, x_TooMany, x_Clashing, kit 0 _ rfl, kit 1 _ rfl, kit 2 _ rfl, kit 3 _ rfl, kit 4 _ rfl, kit 5 _ rfl, (errI_ok eB g_BadAsk).no _ List.mem_cons_self, (errI_ok eC g_Clashing).no _ List.mem_cons_self, (errI_ok eT g_TooMany).no _ List.mem_cons_self, (errI_ok eT g_TooMany).no _ (List.mem_cons_of_mem _ List.mem_cons_self)⟩
  have HF : HeardF K mg (He.ga K "OpenError") (He.ga K "BadAsk") (He.ga K "TooMany") (He.ga K "Clashing") := ⟨⟨_, _, g__law_heard, F_l_heard, b_l_heard⟩, g_OpenError, g_BadAsk, g_TooMany, g_Clashing, EB⟩
  refine ⟨d_law, tfs.map (He.cT K), spLaw K (T0s K), fun p hp => ?_, fun p hp => ?_, fun p hp => ?_, fun s u => ?_, fun H a ns hl _ hH hS => ?_, fun base X2 G2 hb hT => ?_⟩
  · obtain ⟨d, md, rfl⟩ := List.mem_map.mp hp
    exact c.empty d md
  · obtain ⟨d, md, rfl⟩ := List.mem_map.mp hp
    exact c.out d md
  · obtain ⟨d, md, rfl⟩ := List.mem_map.mp hp
    exact PySem.W.codeHd_of_K X (c.hd d md)
  · obtain ⟨oc, od, kV, doc, pm, an, cdv, ct, osl, rfl, _⟩ := F_law.ex
    exact .of_eq rfl
  · refine ⟨a, ns, rfl, hS, hl, fun p hp => ?_, fun _ => rfl⟩
    unfold T0s at hp
    rcases List.mem_cons.mp hp with rfl | hp
    · exact hH _ (by simp)
    rcases List.mem_cons.mp hp with rfl | hp
    · exact hH _ (by simp)
    rcases List.mem_cons.mp hp with rfl | hp
    · exact hH _ (by simp)
    cases hp
  · have efa := hfa.symm.trans g_law
    cases efa
    have MB := mk_BadAsk (P := PySem.Challenge.rw_stayopen_k36_surely_and_tellable.prog) (w := w) (base := base) eB g_BadAsk F_eB TB0 g_copied F_copied b_copied
    have MC := mk_Clashing (P := PySem.Challenge.rw_stayopen_k36_surely_and_tellable.prog) (w := w) (base := base) eC g_Clashing F_eC TB0 g_copied F_copied b_copied
    have MT := mk_TooMany (P := PySem.Challenge.rw_stayopen_k36_surely_and_tellable.prog) (w := w) (base := base) eT g_TooMany F_eT TB0 g_copied F_copied b_copied
    have GK := ok_check_ask F_check_ask TB0 C g_is_name g_is_count F_is_integer b_is_integer F_is_name b_is_name F_is_count b_is_count MB
    have GI := ok_init F_aI A g_check_ask GK F_check_ask b_check_ask
    have IF := init_f (fK := 0) (dK := d_check_ask) F_aI mAsk GI
    have GN := ok_need F_need_asks A T cMost MB MT
    have GPo := ok_parts_of (P := PySem.Challenge.rw_stayopen_k36_surely_and_tellable.prog) (w := w) (base := base) F_parts_of A T g_told_lots F_told_lots b_told_lots
    have GZ := ok_zones F_zones A T g_need_asks GN F_need_asks b_need_asks g_told_lots F_told_lots b_told_lots g_parts_of F_parts_of b_parts_of
    have GA := ok_ahead F_aA A TB0 MB
    have bI : Binds K d_aI psI [] := by
      obtain ⟨ds, v, b⟩ := F_aI.binds1 (ps := psI) 6 2 (by decide) rfl fun T kV doc pm an cdv ct us its h1 h2 => match us, its, h1, h2 with
        | [_, _, _, _, _, _], [_, _], _, _ => ⟨_, rfl, rfl⟩
      cases v
      exact b
    have c_made : Cal PySem.Challenge.rw_stayopen_k36_surely_and_tellable.prog w K mg base "_law_made" 10 ["row"] (spMade (He.ga K "Ask")) := ⟨_, _, g__law_made, FnOk.x0 (ok_made F_l_made A mAsk GI bI), F_l_made.kp, b_l_made⟩
    have c_draw : Cal PySem.Challenge.rw_stayopen_k36_surely_and_tellable.prog w K mg base "_law_draw" 1 ["well", "many"] spDraw := ⟨_, _, g__law_draw, ok_draw F_l_draw T, F_l_draw.kp, b_l_draw⟩
    have c_one : Cal PySem.Challenge.rw_stayopen_k36_surely_and_tellable.prog w K mg base "_law_one" 2 ["well", "some"] spOne := ⟨_, _, g__law_one, ok_one F_l_one T g__law_draw F_l_draw b_l_draw, F_l_one.kp, b_l_one⟩
    have c_parts : Cal PySem.Challenge.rw_stayopen_k36_surely_and_tellable.prog w K mg base "_law_parts" 1 ["rows"] spLParts := ⟨_, _, g__law_parts, ok_lparts F_l_parts T, F_l_parts.kp, b_l_parts⟩
    have c_ahead : Cal PySem.Challenge.rw_stayopen_k36_surely_and_tellable.prog w K mg base "_law_ahead" 1 ["one", "other"] spLAhead := ⟨_, _, g__law_ahead, ok_lahead F_l_ahead, F_l_ahead.kp, b_l_ahead⟩
    have c_orders : Cal PySem.Challenge.rw_stayopen_k36_surely_and_tellable.prog w K mg base "_law_orders" 2 ["rows"] spLOrders := ⟨_, _, g__law_orders, ok_lorders F_l_orders T c_parts c_ahead, F_l_orders.kp, b_l_orders⟩
    have c_zones : Cal PySem.Challenge.rw_stayopen_k36_surely_and_tellable.prog w K mg base "_law_zones" 2 ["rows"] (spLZones PySem.Challenge.rw_stayopen_k36_surely_and_tellable.prog w) := ⟨_, _, g__law_zones, ok_lzones F_l_zones T c_parts, F_l_zones.kp, b_l_zones⟩
    have c_aof : Cal PySem.Challenge.rw_stayopen_k36_surely_and_tellable.prog w K mg base "_law_ahead_of" 3 ["rows", "one"] spAheadOf := ⟨_, _, g__law_ahead_of, ok_aheadof F_l_ahead_of T c_zones, F_l_ahead_of.kp, b_l_ahead_of⟩
    have c_sure : Cal PySem.Challenge.rw_stayopen_k36_surely_and_tellable.prog w K mg base "_law_sure" 4 ["rows", "one", "other"] spLSure := ⟨_, _, g__law_sure, ok_lsure F_l_sure T c_aof c_ahead, F_l_sure.kp, b_l_sure⟩
    have c_led : Cal PySem.Challenge.rw_stayopen_k36_surely_and_tellable.prog w K mg base "_law_led" 3 ["well", "many", "spread"] spLed := ⟨_, _, g__law_led, ok_led F_l_led T c_draw c_one, F_l_led.kp, b_l_led⟩
    have c_rows : Cal PySem.Challenge.rw_stayopen_k36_surely_and_tellable.prog w K mg base "_law_rows" 3 ["well", "many", "span"] spRows := ⟨_, _, g__law_rows, ok_rows F_l_rows T c_draw c_one, F_l_rows.kp, b_l_rows⟩
    have c_nh : Cal PySem.Challenge.rw_stayopen_k36_surely_and_tellable.prog w K mg base "_law_no_history" 10 ["well"] (spNH K (He.ga K "Ask")) := ⟨_, _, g__law_no_history, ok_nh F_l_no_history T A NL c_draw c_one IF, F_l_no_history.kp, b_l_no_history⟩
    have c_po : Cal PySem.Challenge.rw_stayopen_k36_surely_and_tellable.prog w K mg base "parts_of" 2 ["asks"] (spParts K (He.ga K "Ask")) := ⟨_, _, g_parts_of, GPo, F_parts_of.kp, b_parts_of⟩
    have c_isI : Cal PySem.Challenge.rw_stayopen_k36_surely_and_tellable.prog w K mg base "is_integer" 1 ["value"] (spIsInt K) := ⟨_, _, g_is_integer, ok_is_integer F_is_integer TB0, F_is_integer.kp, b_is_integer⟩
    have O : OF PySem.Challenge.rw_stayopen_k36_surely_and_tellable.prog w K mg base (He.ga K "Ask") := ⟨
      ⟨_, _, g_gets_ahead_of_puts, ok_early F_gets_ahead_of_puts A T me_is_ahead (ahead_x GA) b_aA, F_gets_ahead_of_puts.kp, b_gets_ahead_of_puts⟩,
      ⟨_, _, g_lots_at_odds, ok_odds F_lots_at_odds T, F_lots_at_odds.kp, b_lots_at_odds⟩,
      ⟨_, _, g_zones, zones_x GZ, F_zones.kp, b_zones⟩,
      ⟨_, _, g_lot_of, ok_lotof F_lot_of A, F_lot_of.kp, b_lot_of⟩,
      ⟨_, _, g_can_be_last, ok_canlast F_can_be_last T, F_can_be_last.kp, b_can_be_last⟩,
      ⟨_, _, g_is_lot_ahead, ok_lotahead F_is_lot_ahead T, F_is_lot_ahead.kp, b_is_lot_ahead⟩⟩
    have GNO := ok_needo F_need_order T O MC
    have GSU := ok_surely (cT := (He.ga K "TooMany")) F_surely A T O MB c_po c_isI g_need_asks GN F_need_asks.kp b_need_asks g_need_order GNO F_need_order.kp b_need_order me_is_ahead (ahead_x GA) b_aA
    have GTE := ok_tellable (cB := (He.ga K "BadAsk")) (cT := (He.ga K "TooMany")) F_tellable A T O g_zones GZ F_zones.kp b_zones
    have SF : SurelyF PySem.Challenge.rw_stayopen_k36_surely_and_tellable.prog w K mg base (He.ga K "Ask") (He.ga K "BadAsk") (He.ga K "TooMany") (He.ga K "Clashing") := ⟨⟨_, _, g_surely, GSU, F_surely.kp, b_surely⟩⟩
    have SK : SureK PySem.Challenge.rw_stayopen_k36_surely_and_tellable.prog w K mg base (He.ga K "Ask") (He.ga K "BadAsk") (He.ga K "TooMany") (He.ga K "Clashing") := ⟨⟨_, _, g_surely, GSU, F_surely.kp, b_surely, kb_swap F_surely (fun _ _ _ _ _ _ _ _ _ => rfl)⟩⟩
    have TF : TellF PySem.Challenge.rw_stayopen_k36_surely_and_tellable.prog w K mg base (He.ga K "Ask") (He.ga K "BadAsk") (He.ga K "TooMany") := ⟨⟨_, _, g_tellable, GTE, F_tellable.kp, b_tellable⟩⟩
    have TK : CalK PySem.Challenge.rw_stayopen_k36_surely_and_tellable.prog w K mg base "tellable" 9 ["asks"] (spTellX K (He.ga K "Ask")) := ⟨_, _, g_tellable, tell_x GTE, F_tellable.kp, b_tellable, kb_one F_tellable (fun _ _ _ _ _ _ _ => rfl) (fun _ _ _ _ _ _ _ => rfl)⟩
    have LRF_ : LRF PySem.Challenge.rw_stayopen_k36_surely_and_tellable.prog w K mg base (He.ga K "Ask") := ⟨c_led, c_one, c_draw, c_made, ⟨_, _, g_surely, sure_x GSU, F_surely.kp, b_surely⟩, c_sure, c_zones, TK⟩
    have LP : LamAt (T0s K) base mg (He.codeOf K ("_law_pairs_right", none)) (tP K) qP := by
      refine ⟨hT (He.cT K ("_law_pairs_right", none)) (by simp), by unfold T0s; simp, fun p hp e => ?_⟩
      unfold T0s at hp
      rcases List.mem_cons.mp hp with rfl | hp
      · rfl
      rcases List.mem_cons.mp hp with rfl | hp
      · exact (nPR e.symm).elim
      rcases List.mem_cons.mp hp with rfl | hp
      · exact (nPL e.symm).elim
      cases hp
    have LR : LamAt (T0s K) base mg (He.codeOf K ("_law_refused_right", none)) (tR K) qR := by
      refine ⟨hT (He.cT K ("_law_refused_right", none)) (by simp), by unfold T0s; simp, fun p hp e => ?_⟩
      unfold T0s at hp
      rcases List.mem_cons.mp hp with rfl | hp
      · exact (nPR e).elim
      rcases List.mem_cons.mp hp with rfl | hp
      · rfl
      rcases List.mem_cons.mp hp with rfl | hp
      · exact (nRL e.symm).elim
      cases hp
    have LL : LamAt (T0s K) base mg (He.codeOf K ("_law_led_right", none)) (tL K) qL := by
      refine ⟨hT (He.cT K ("_law_led_right", none)) (by simp), by unfold T0s; simp, fun p hp e => ?_⟩
      unfold T0s at hp
      rcases List.mem_cons.mp hp with rfl | hp
      · exact (nPL e).elim
      rcases List.mem_cons.mp hp with rfl | hp
      · exact (nRL e).elim
      rcases List.mem_cons.mp hp with rfl | hp
      · rfl
      cases hp
    have GW : FnOk PySem.Challenge.rw_stayopen_k36_surely_and_tellable.prog w K mg base CX0 1 _ d_l_well ["script"] (spPen K) := ok_well F_l_well T
    exact ok_law F_law T A IF g__law_well GW F_l_well.kp b_l_well LRF_ c_rows
      ⟨_, _, g__law_history_right, ok_hi F_l_history_right T c_orders
        ⟨_, _, g__law_pairs_right, ok_pr hb F_l_pairs_right (code_eq (p := ("_law_pairs_right", none)) F_l_pairs_right) LP T A c_made c_parts SF HF, F_l_pairs_right.kp, b_l_pairs_right⟩
        ⟨_, _, g__law_further_right, ok_fr hb F_l_further_right T c_made c_orders TK, F_l_further_right.kp, b_l_further_right⟩
        ⟨_, _, g__law_refused_right, ok_rf F_l_refused_right (code_eq (p := ("_law_refused_right", none)) F_l_refused_right) LR T A NL c_made c_parts c_one c_nh SK TF HF, F_l_refused_right.kp, b_l_refused_right⟩, F_l_history_right.kp, b_l_history_right⟩
      ⟨_, _, g__law_led_right, ok_lr hb F_l_led_right (code_eq (p := ("_law_led_right", none)) F_l_led_right) LL T A LRF_ SF HF, F_l_led_right.kp, b_l_led_right⟩
end K36
end

section
open PySem PySem.W PySem.Calls PyProof.Rows
set_option Elab.async false
set_option linter.all false
set_option maxRecDepth 100000
set_option maxHeartbeats 0
theorem PySem.Challenge.cw_stayopen_k36_surely_and_tellable_holds : PySem.Challenge.rw_stayopen_k36_surely_and_tellable.Holds := by
  w_on; o_law
  refine HandSHeadRun.head_any (r := OpenLaw.row PySem.Challenge.rw_stayopen_k36_surely_and_tellable) (q := view (OpenLaw.row PySem.Challenge.rw_stayopen_k36_surely_and_tellable).prog [49]) (H := K36.hk) (ob := K36.ob) (M := 20000) (loose := K36.nms) (d := HandSHeadRun.topDef (OpenLaw.row PySem.Challenge.rw_stayopen_k36_surely_and_tellable).prog 49) (kwd := []) K36.ob_eq
    (by kernel_rfl) (fun s => by kernel_rfl) K36.run (by kernel_rfl) (by kernel_rfl) (by kernel_rfl) (by rfl) (by first | assumption | decide +kernel) (by decide +kernel) ⟨rfl, rfl, rfl, rfl, rfl, by decide +kernel⟩ ?hw ?hc
  case hw => w_witness2
  case hc =>
    refine KZ.walkGE (l := PySem.Challenge.rw_stayopen_k36_surely_and_tellable) (n := 63) (k := 15) (x := "script") rfl (by decide) (by kernel_rfl) ⟨rfl, by decide, by decide⟩ (by decide +kernel) ?F
    intro w mg fa h Y G hmg0
    obtain ⟨K, KX, c⟩ := Y
    have hmg : mg ("law" : PySem.Str) = some (.ref fa) := by
      have e : (HandSHeadRun.topDef (OpenLaw.row PySem.Challenge.rw_stayopen_k36_surely_and_tellable).prog 49).name = ("law" : PySem.Str) := by kernel_rfl
      rw [← e]
      exact hmg0
    exact ⟨K, KX, K36.joined KX G hmg c⟩
end
