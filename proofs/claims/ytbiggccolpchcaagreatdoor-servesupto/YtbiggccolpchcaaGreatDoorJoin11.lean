/- Joined. -/
import Derived.Test.YtbiggccolpchcaaGreatDoorJoin10
import Derived.OwnWalk
set_option maxRecDepth 100000
set_option maxHeartbeats 4000000
namespace Go.Proofs.YtbiggccolpchcaaGreatDoor
open Go.RowKit _root_.Go.Proofs.Tryz
def pcB(t:L8):Int×By:=(Pm.a4e t,⟨(Pm.a4g t).toArray⟩)
def a8Q(t:L8)(last:Bool)(acc:List (Int×By)):Bool:=Pm.a4f t&&(!((Pm.a4e t==2)&&!last)&&!(acc.any (Dv · (pcB t))))
def Rd:List (List UInt8)->List (Int×By)->Option (List (Int×By))
 |[],acc=>some acc
 |t::r,acc=>if a8Q t r.isEmpty acc=true then Rd r (acc++[pcB t])else none
def Bo(l:L8):Option (List (Int×By)):=if l.length<=64/\Lib.hasPrefix l [47]=true then Rd (Lib.split (l.drop 1) [47]) []else none
def Fh(ps:List (Int×By)):List Value:=ps.flatMap λp=>[.int .i64 p.1,.string p.2]
theorem Xj(ps:List (Int×By))(p:Int×By):Fh (ps++[p])=Fh ps++[.int .i64 p.1,.string p.2]:=by simp[Fh]
theorem Qh:∀(ps:List (Int×By)) (i:Nat) (h:i<ps.length),(Fh ps)[i*2]?=some (.int .i64 ps[i].1)/\(Fh ps)[i*2+1]?=some (.string ps[i].2)
 |[],i,h=>absurd h (by simp)
 |f::fs,0,h=>by simp[Fh]
 |f::fs,i+1,h=>by
  have:=Qh fs i (by simpa using h);have e:Fh (f::fs)=(.int .i64 f.1)::(.string f.2)::Fh fs:=by simp[Fh]
  rw[e,show(i+1)*2=i*2+1+1 from by omega,B6z,B6z,show i*2+1+1+1=(i*2+1)+1+1 from by omega,B6z,B6z];exact this
theorem Mt{w:World}{B:Nat}{e:TypeId}{v:Value}{ps:List (Int×By)}(h:w.ownsRow B e 2 v ps.length (Fh ps)):∃a cap,v=.slice a ps.length cap/\Ii ps a w:=by
 obtain⟨h1,h2⟩:=h;rcases h2 with⟨h2,h3⟩|⟨g,cap,cur,hv,hB,hg,hc,hm,hsz,ht⟩
 ·refine⟨none,0,?_,λi hi=>?_⟩
  ·rw[h3];exact h2
  ·omega
 ·refine⟨some ⟨g,0,none⟩,cap,hv,λi hi=>⟨g,rfl,?_,?_,?_⟩⟩
  ·rcases B8z g w.heap.size with h'|h'
   ·exact h'
   ·simp[Array.getElem?_eq_none h']at hg
  all_goals
   obtain⟨m1,m2⟩:=Qh ps i hi;rw[<-ht,D0z]at m1 m2;rw[Ab hg]
  ·split at m1
   ·simpa using m1
   ·cases m1
  ·split at m2
   ·simpa using m2
   ·cases m2
theorem Tryz.infoPc:(prog.info? 307).map (λi=>(i.zero,i.size,i.bytes))=some (some (.agg #[.int .i64 0,.string ⟨#[]⟩]),2,24):=by kernel_rfl
def c2E(PO:Option (List (Int×By)))(B:Nat)(r:Ending)(w':World):Prop:=
 match PO with
 |none=>r=.returned (.tuple #[.slice none 0 0,.int .i64 8])
 |some ps=>∃v,r=.returned (.tuple #[v,.int .i64 0])/\w'.ownsRow B 307 2 v ps.length (Fh ps)
theorem Hc(s:By)(mx:Int)(w:World)(hs:s.size<=281474976710656)(hm:w.cell? ⟨0,0,none⟩=some (.int .i64 mx)):
  Calls prog 152 #[.string s] w λr w'=>
   c2E (Bo s.data.toList) w.heap.size r w'/\Bw w w':=by
 obtain⟨i0,hi,hz0,hz1,hz2⟩:=info_parts Tryz.infoPc;have hsl:s.data.toList.length=s.size:=by simp
 generalize hPO:Bo s.data.toList=PO;have HPO:=hid hPO;clear hPO;unfold Bo at HPO;rw[hsl]at HPO;by_cases h64:s.size<=64
 ·cases h47:Lib.hasPrefix s.data.toList [47]
  ·have HN:Hid (PO=none):=by unfold Hid;rw[<-HPO.out,if_neg (by rw[h47];simp)]
   clear HPO hsl;go_enter func152,ntmps152;go_wp2_with (go_at_call 219;refine(Tryz.strings_HasPrefix _ _ _).mono ?_;rintro e w1 ⟨rfl,hw1⟩;subst hw1)
   go_ret2
   rw[HN.out];exact⟨rfl,Ad _ _⟩
  ·rw[if_pos ⟨h64,h47⟩]at HPO;have hne:1<=s.size:=by
    rcases Nat.eq_zero_or_pos s.size with h|h
    ·have:s.data.toList=[]:=Ay (by omega);rw[this]at h47;exact absurd h47 (by decide)
    ·exact h
   have hex:(s.extract 1 s.size).data.toList=s.data.toList.drop 1:=by rw[Lib.extract_data,Aq (by simp)]
   have hez:(s.extract 1 s.size).size<=281474976710656:=by simp;omega
   have hez2:(s.extract 1 s.size).size<4294967281:=by simp;omega
   rw[<-hex]at HPO;have HCL:=hid (λW=>Db (s.extract 1 s.size) W hez);have HM:=hid (λW (hW:Bw w W)=>Tryz.strings_Split (s.extract 1 s.size) ⟨#[47]⟩ mx W hez2 (Aa hW hm) (by decide));go_enter func152,ntmps152;go_wp2_with (go_at_call 219;refine(Tryz.strings_HasPrefix _ _ _).mono ?_;rintro e w1 ⟨rfl,hw1⟩;subst hw1);refine(HCL.out _).mono ?_;rintro e w2 ⟨rfl,hb2⟩;have HSP:=hid (HM.out w2 hb2);clear HM HCL;go_wp2_with fail;refine HSP.out.mono ?_;rintro e w3 ⟨rfl,hw3⟩;have hlen:(Lib.splitB ⟨#[47]⟩ 0 (Lib.countB (s.extract 1 s.size) ⟨#[47]⟩) (s.extract 1 s.size)).length=Lib.countB (s.extract 1 s.size) ⟨#[47]⟩+1:=Lib.splitB_all _ (by decide) _ _ _ rfl;have hdat:(Lib.splitB ⟨#[47]⟩ 0 (Lib.countB (s.extract 1 s.size) ⟨#[47]⟩) (s.extract 1 s.size)).map (·.data.toList)=Lib.split (s.extract 1 s.size).data.toList [47]:=Lib.splitB_data _ _ _ _;have hcnt:=Lib.countB_le ⟨#[47]⟩ (by decide) _ (s.extract 1 s.size) (Ac _);have hc64:Lib.countB (s.extract 1 s.size) ⟨#[47]⟩<=64:=by simp at hcnt;omega
   have HTZ:∀i (h:i<(Lib.splitB ⟨#[47]⟩ 0 (Lib.countB (s.extract 1 s.size) ⟨#[47]⟩) (s.extract 1 s.size)).length),(Lib.splitB ⟨#[47]⟩ 0 (Lib.countB (s.extract 1 s.size) ⟨#[47]⟩) (s.extract 1 s.size))[i].size<=maxLen:=λi h=>by
    have h2:=Pm.a4l _ _ _ _ (As h);unfold maxLen;omega
   rw[<-hdat]at HPO;rw[<-hlen];generalize Lib.splitB ⟨#[47]⟩ 0 (Lib.countB (s.extract 1 s.size) ⟨#[47]⟩) (s.extract 1 s.size)=TS at *
   have hts:TS.length<=65:=by omega
   clear HSP hdat hcnt hlen hc64;subst hw3;have hA3:=bA w2 (.cells (TS.map Value.string).toArray 9);have hB3:=Bc hb2 hA3;have hS3:Dg TS (some ⟨w2.heap.size,0,none⟩) (w2.alloc (.cells (TS.map Value.string).toArray 9)):=λi h=>⟨w2.heap.size,rfl,by simp,by
    rw[Ab (Ag w2 _)];simp[h]⟩
   go_wp2_with (at_make;refine wpList_make_own _ rfl _ _ 229 rfl (w2.heap.size+1) 307 i0 _ 2 underlying229 hi hz0 hz1 .i64 .i64 _ TS.length rfl rfl rfl (by rw[hz2];omega) (by unfold maxLen;omega) (by simp) ?_);intro w4 ow4 gr4;have hB4:=hB3.grown gr4 hB3.size (λr hr=>by cases hr);have hS4:Dg TS (some ⟨w2.heap.size,0,none⟩) w4:=λi h=>by
    obtain⟨g,e1,e2,e3⟩:=hS3 i h;have hb:=gr4.block g e2 (by simp);exact⟨g,e1,Af e2 gr4.size,by rw[Au (w:=w2.alloc (.cells (TS.map Value.string).toArray 9)) hb];exact e3⟩
   have szw:w2.heap.size<w4.heap.size:=by have:=gr4.size;simp at this;omega
   have hb2s:=hb2.size;clear gr4 hA3 hB3 hS3 hb2;have HSZ:Hid (∀i (h:i<TS.length),TS[i].size<=maxLen):=HTZ;generalize hw2:w2.heap.size=gT at *
   clear hw2;go_wp2_with fail
   go_loopw [5,6,7,8,9,10,28] (λp _ _ _ _ _ i wr=>∃(q:Nat) (acc:List (Int×By)),q<=TS.length/\i=.int .i64 q/\acc.length=q/\wr.ownsRow (gT+1) 307 2 p acc.length (Fh acc)/\Dg TS (some ⟨gT,0,none⟩) wr/\gT<wr.heap.size/\Hid (Rd ((TS.drop q).map (·.data.toList)) acc=PO)/\Bw w1 wr) (λ_ _ _ _ _ _ i _=>TS.length-(intOf i).toNat)
   case atStart=>exact⟨0,[],Ah _,rfl,rfl,ow4,hS4,szw,HPO,hB4⟩
   case round=>
    obtain⟨q,acc,hq,rfl,hacc,ow,hst,hgt,H,hbw⟩:=hrel;obtain⟨pa,pc,rfl,hpc⟩:=Mt ow;by_cases hlt:q<TS.length
    ·obtain⟨g,hge,hg2,hck⟩:=hst q hlt;obtain rfl:gT=g:=by simpa using hge
     have hzk:=HSZ.out q hlt;have hdr:(TS.drop q).map (·.data.toList)=TS[q].data.toList::(TS.drop (q+1)).map (·.data.toList):=by
      rw[<-Ax hlt];rfl
     rw[hdr,Rd]at H;have hem:((TS.drop (q+1)).map (·.data.toList)).isEmpty=decide (q+1=TS.length):=by
      rw[B9z,List.isEmpty_iff,List.map_eq_nil_iff,List.drop_eq_nil_iff,decide_eq_true_iff];omega
     rw[hem]at H;generalize TS[q]=tx at *
     have HRP:=hid (λW=>Ux tx W hzk);clear hge hdr hem;go_wp2_with fail;refine(HRP.out _).mono ?_;rintro e w5 ⟨rfl,hb5⟩;have hok:a8Q tx.data.toList (decide (q+1=TS.length)) acc=(Pm.a4f tx.data.toList&&(!((Pm.a4e tx.data.toList==2)&&!(decide (q+1=TS.length)))&&!(acc.any (Dv · (Pm.a4e tx.data.toList,⟨(Pm.a4g tx.data.toList).toArray⟩))))):=rfl;rw[hok]at H;have hpb:pcB tx.data.toList=(Pm.a4e tx.data.toList,⟨(Pm.a4g tx.data.toList).toArray⟩):=rfl;rw[hpb]at H;clear hok hpb HRP;generalize Pm.a4e tx.data.toList=K at *
     generalize (⟨(Pm.a4g tx.data.toList).toArray⟩:By)=pt at *
     generalize Pm.a4f tx.data.toList=ok at *
     have hA6:=Bc hb5 (bA w5 (.cells #[.int .i64 K,.string pt] 307));have hB6:=Bc hbw hA6;have ow6:=Be ow hA6;have hpc6:=hpc.below hA6;have hst6:=hst.below hA6;have hlast:IntKind.i64.wrap ((TS.length:Int)-1)=(TS.length:Int)-1:=by simp[IntKind.wrap,IntKind.bits,IntKind.signed];omega
     cases ok
     ·have HN:Hid (PO=none):=by unfold Hid;rw[<-H.out];rfl
      clear H;go_wp2
      go_ret2
      rw[HN.out];exact⟨rfl,hB6⟩
     ·rw[D4z]at H;by_cases hr:K=2/\¬q+1=TS.length
      ·obtain⟨h1,h2⟩:=hr;have HN:Hid (PO=none):=by unfold Hid;rw[<-H.out,h1,Ao h2];rfl
       have h1':(K==2)=true:=by rw[h1];rfl
       have h2':((q:Int)==(TS.length:Int)-1)=false:=by rw[Ar];omega
       clear H h1;go_wp2
       go_ret2
       rw[HN.out];exact⟨rfl,hB6⟩
      ·have HH:Hid ((if(!(acc.any (Dv · (K,pt))))=true then Rd ((TS.drop (q+1)).map (·.data.toList)) (acc++[(K,pt)])else none)=PO):=by
        have h1:((K==2)&&!(decide (q+1=TS.length)))=false:=by
         rw[Bool.and_eq_false_iff];by_cases h2:K=2
         ·right;have h3:q+1=TS.length:=by
           by_cases h4:q+1=TS.length
           ·exact h4
           ·exact absurd ⟨h2,h4⟩ hr
          rw[Ak h3];rfl
         ·left;rw[Ar];exact h2
        have:=H.out;rw[h1,Bool.not_false,D4z]at this;exact this
       have hcs:(K==2)=false\/((K==2)=true/\((q:Int)==(TS.length:Int)-1)=true):=by
        by_cases h2:K=2
        ·right;have h3:q+1=TS.length:=by
          by_cases h4:q+1=TS.length
          ·exact h4
          ·exact absurd ⟨h2,h4⟩ hr
         exact⟨by rw[h2];rfl,by rw[beq_iff_eq];omega⟩
        ·left;rw[Ar];exact h2
       have HHN:=hid (λW hW=>a0P acc pa pc K pt W hW (by omega));rw[hacc]at HHN;clear H hr;rcases hcs with hk|⟨hk,hl2⟩
       all_goals
        go_wp2_with fail;refine(HHN.out _ hpc6).mono ?_;rintro e w7 ⟨rfl,hb7⟩;have hB7:=Bc hB6 hb7;have ow7:=Be ow6 hb7;rw[hacc]at ow7;have hst7:=hst6.below hb7;have kc0:=Aa hb7 (a:=⟨w5.heap.size,0,none⟩) (v:=.int .i64 K) (by simp);have kc1:=Aa hb7 (a:=⟨w5.heap.size,1,none⟩) (v:=.string pt) (by simp);have s57:w5.heap.size<w7.heap.size:=by have:=hb7.size;simp at this;omega
        have hgt7:gT<w7.heap.size:=Af hgt (Aj hA6.size hb7.size);generalize acc.any (Dv · (K,pt))=an at *
        cases an
        ·rw[Bool.not_false,if_pos rfl]at HH;go_wp2_with (at_builtin;refine wpList_append_lies _ rfl _ _ 229 rfl (gT+1) 307 i0 _ 2 24 underlying229 hi hz0 hz1 hz2 rfl (by omega) (.slice pa q pc) q (Fh acc) rfl (ow7.alloc _) ⟨w7.heap.size,0,none⟩ 1 1 [.int .i64 K,.string pt] rfl rfl ?c1 ?c2 (by omega) ?c3 ?c4 ?c5 _ rfl ?_)
         case c1=>
          intro j x hj
          match j,hj with
          |0,hj=>simp at hj;subst hj;simp[Addr.add]
          |1,hj=>simp at hj;subst hj;simp[Addr.add]
         case c2=>intro x hx;simp at hx;rcases hx with rfl|rfl<;>rfl
         case c3=>unfold maxLen;omega
         case c4=>omega
         case c5=>simp;omega
         intro gg cap w8 hown hgrow hat hlt8;have hA8:=bA w7 (.cells #[.int .i64 K,.string pt] 307);have hB8:=(Bc hB7 hA8).grown hgrow (by have:=hB7.size;simp;omega) (λr hr=>by have:=Bx ow7 r hr;omega);have hst8:Dg TS (some ⟨gT,0,none⟩) w8:=λi h=>by
          obtain⟨g,e1,e2,e3⟩:=(hst7.below hA8) i h;obtain rfl:gT=g:=by simpa using e1
          have hb:=hgrow.block gT e2 (λe=>Hh ow7 (E1z gT) e.symm);exact⟨gT,rfl,Af e2 hgrow.size,by rw[Au (w:=w7.alloc (.cells #[.int .i64 K,.string pt] 307)) hb];exact e3⟩
         have hgt8:gT<w8.heap.size:=by have:=hgrow.size;simp at this;omega
         clear hgrow hst7 ow7 hB7;go_wp2;refine⟨⟨q+1,acc++[(K,pt)],by omega,by go_num,by simp;omega,?_,hst8,hgt8,HH,hB8⟩,by simp[intOf];omega⟩;rw[A0z,hacc,Xj];exact hown
        ·have HN:Hid (PO=none):=by unfold Hid;rw[<-HH.out];rfl
         go_wp2
         go_ret2
         rw[HN.out];exact⟨rfl,hB7⟩
    ·have HS:Hid (PO=some acc):=by
      have:=H.out;rw[Az (by omega),E0z,Rd]at this;exact this.symm
     go_wp2
     go_ret2
     rw[HS.out];exact⟨⟨_,rfl,Bt ow (by omega)⟩,hbw⟩
 ·have HN:Hid (PO=none):=by unfold Hid;rw[<-HPO.out,if_neg (by omega)]
  clear HPO hsl;go_enter func152,ntmps152;go_wp2
  go_ret2
  rw[HN.out];exact⟨rfl,Ad _ _⟩
theorem Qi:∀(ts:List (List UInt8)) (acc ps:List (Int×By)),Rd ts acc=some ps->ps.length=acc.length+ts.length
 |[],acc,ps,h=>by rw[Rd]at h;cases h;simp
 |t::r,acc,ps,h=>by
  rw[Rd]at h
  split at h
  ·have:=Qi r _ _ h;simp at this;simp;omega
  ·cases h
theorem Pc{s:By}{ps:List (Int×By)}(h:Bo s.data.toList=some ps):ps.length<=1000000:=by
 unfold Bo at h
 split at h
 ·rename_i hc
  have h1:=Qi _ _ _ h;have hdat:=Lib.splitB_data ⟨#[47]⟩ 0 (Lib.countB (s.extract 1 s.size) ⟨#[47]⟩) (s.extract 1 s.size);have hex:(s.extract 1 s.size).data.toList=s.data.toList.drop 1:=by rw[Lib.extract_data,Aq (by simp)]
  have hlen:(Lib.splitB ⟨#[47]⟩ 0 (Lib.countB (s.extract 1 s.size) ⟨#[47]⟩) (s.extract 1 s.size)).length=Lib.countB (s.extract 1 s.size) ⟨#[47]⟩+1:=Lib.splitB_all _ (by decide) _ _ _ rfl;have hcnt:=Lib.countB_le ⟨#[47]⟩ (by decide) _ (s.extract 1 s.size) (Ac _);have hd:(Lib.splitB ⟨#[47]⟩ 0 (Lib.countB (s.extract 1 s.size) ⟨#[47]⟩) (s.extract 1 s.size)).map (·.data.toList)=Lib.split (s.extract 1 s.size).data.toList [47]:=Lib.splitB_data _ _ _ _;rw[hex]at hd;rw[<-hd,A8z,hlen]at h1;have:=hc.1;simp at hcnt this h1;omega
 ·cases h
abbrev Prm:=By×By
def Qj(k:Int)(l:L8):L8:=if k=2 then l else Pm.ahead 47 l
def Pd(k:Int)(l:L8):L8:=if k=2 then l else(Pm.behind 47 l).drop 1
def Xk(k:Int)(l:L8):Bool:=if k=2 then false else !(Pm.behind 47 l).isEmpty
def Cj:List (Int×By)->L8->Bool->List Prm->Option (List Prm)
 |[],_,mr,acc=>if mr=true then none else some acc
 |p::r,l,mr,acc=>if mr=false then none else if tk p.1 p.2 (Pm.unT (Qj p.1 l))=true then Cj r (Pd p.1 l) (Xk p.1 l) (if p.1=0 then acc else acc++[(p.2,Pm.unT (Qj p.1 l))])else none
def Bg(fs:List Prm):List Value:=fs.flatMap λf=>[.string f.1,.string f.2]
theorem Gh(ps:List Prm)(p:Prm):Bg (ps++[p])=Bg ps++[.string p.1,.string p.2]:=by simp[Bg]
theorem Tryz.infoPr:(prog.info? 129).map (λi=>(i.zero,i.size,i.bytes))=some (some (.agg #[.string ⟨#[]⟩,.string ⟨#[]⟩]),2,32):=by kernel_rfl
def a5K(PO:Option (List Prm))(B:Nat)(r:Ending)(w':World):Prop:=
 match PO with
 |none=>r=.returned (.tuple #[.slice none 0 0,.bool false])
 |some ps=>∃v,r=.returned (.tuple #[v,.bool true])/\w'.ownsRow B 129 2 v ps.length (Bg ps)
theorem Gy(c:UInt8)(l:L8):(Pm.ahead c l).length<=l.length/\((Pm.behind c l).drop 1).length<=l.length:=by
 have h:=congrArg List.length (Pm.a0c c l);rw[A0z]at h;constructor
 ·omega
 ·rw[A6z];omega
theorem Vu(ps:List (Int×By))(a:Oa)(ca:Nat)(s:By)(w:World)(hp:Ii ps a w)(hl:ps.length<=1000000)(h1s:1<=s.size)(hs:s.size<=140737488355328):
  Calls prog 161 #[.slice a ps.length ca,.string s] w λr w'=>
   a5K (Cj ps (s.data.toList.drop 1) true []) w.heap.size r w'/\Bw w w':=by
 obtain⟨i0,hi,hz0,hz1,hz2⟩:=info_parts Tryz.infoPr;have HP:=hid hp;clear hp;generalize hPO:Cj ps (s.data.toList.drop 1) true []=PO;have hex:(s.extract 1 s.size).data.toList=s.data.toList.drop 1:=by rw[Lib.extract_data,Aq (by simp)]
 rw[<-hex]at hPO;have HPO:=hid hPO;have hez:(s.extract 1 s.size).size<=s.size:=by simp
 clear hPO hex;go_enter func161,ntmps161;go_wp2_with fail;generalize s.extract 1 s.size=s1 at *
 go_loopw [6,7,8,10,11,12,13,18] (λp l m _ _ _ _ i wr=>∃(q:Nat) (acc:List Prm) (lt:By) (mr:Bool),q<=ps.length/\i=.int .i64 q/\l=.string lt/\m=.bool mr/\acc.length<=q/\lt.size<=s.size/\wr.ownsRow w.heap.size 129 2 p acc.length (Bg acc)/\Hid (Cj (ps.drop q) lt.data.toList mr acc=PO)/\Bw w wr) (λ_ _ _ _ _ _ _ i _=>ps.length-(intOf i).toNat)
 case atStart=>exact⟨0,[],s1,true,Ah _,rfl,rfl,rfl,Ac _,hez,Am _ _ _ _,HPO,Ad _ _⟩
 case round=>
  obtain⟨q,acc,lt,mr,hq,rfl,rfl,rfl,hacc,hlt2,ow,H,hbw⟩:=hrel;obtain⟨va,vc,rfl⟩:∃a c,u6=.slice a acc.length c:=by
   rcases ow.2 with⟨h2,h3⟩|⟨g,cap,cur,hv,_⟩
   ·exact⟨none,0,by rw[h3];exact h2⟩
   ·exact⟨_,_,hv⟩
  by_cases hlt:q<ps.length
  ·obtain⟨g,rfl,hg,hc1,hc2⟩:=(HP.out.below hbw) q hlt;rw[<-Ax hlt,Cj]at H;generalize ps[q]=pq at *
   obtain⟨K,pt⟩:=pq;simp only at hc1 hc2 H;have hA6:=bA wr (.cells #[.int .i64 K,.string pt] 307);have hB6:=Bc hbw hA6;have ow6:=Be ow hA6
   cases mr
   ·have HN:Hid (PO=none):=by unfold Hid;rw[<-H.out];rfl
    clear H;go_wp2
    go_ret2
    rw[HN.out];exact⟨rfl,hB6⟩
   ·rw[if_neg (by simp)]at H;have HU:=hid (λ(x:By) W (hx:x.size<=s.size)=>Mo x W (by omega));have HT:=hid (λx W=>Pb K pt x W);have HC:=hid (λW=>Sd lt 47 W (by unfold maxLen;omega));by_cases h2:K=2
    ·have hk2:(K==2)=true:=by rw[h2];rfl
     have hk0:(K != 0)=true:=by rw[h2];rfl
     rw[show Qj K lt.data.toList=lt.data.toList from if_pos h2,show Pd K lt.data.toList=lt.data.toList from if_pos h2,show Xk K lt.data.toList=false from if_pos h2,if_neg (by omega:¬K=0)]at H;have hD:=hA6;clear HC h2;go_wp2_with fail;refine(HU.out lt _ hlt2).mono ?_;rintro e w7 ⟨rfl,hb7⟩;generalize Pm.unT lt.data.toList=tx at *
     have h67:=Bc hD hb7;have kc0:=Aa hb7 (a:=⟨wr.heap.size,0,none⟩) (v:=.int .i64 K) (by simp);have kc1:=Aa hb7 (a:=⟨wr.heap.size,1,none⟩) (v:=.string pt) (by simp);have s7:wr.heap.size<w7.heap.size:=Af (by simp) hb7.size;go_wp2_with fail;refine(HT.out tx _).mono ?_;rintro e w8 ⟨rfl,hb8⟩;have h68:=Bc h67 hb8;have hB8:=Bc hbw h68;have ow8:=Be ow h68;have kd0:=Aa hb8 kc0;have kd1:=Aa hb8 kc1;have s8:wr.heap.size<w8.heap.size:=Af s7 hb8.size;clear kc0 kc1 hb7 hb8 h67 h68 hD s7;generalize tk K pt tx=tt at *
     cases tt
     ·have HN:Hid (PO=none):=by unfold Hid;rw[<-H.out];rfl
      clear H;go_wp2
      go_ret2
      rw[HN.out];exact⟨rfl,hB8⟩
     ·rw[if_pos rfl]at H;go_wp2_with (at_builtin;refine wpList_append_lies _ rfl _ _ 92 rfl w.heap.size 129 i0 _ 2 32 underlying92 hi hz0 hz1 hz2 rfl (by omega) (.slice va acc.length vc) acc.length (Bg acc) rfl (ow8.alloc _) ⟨w8.heap.size,0,none⟩ 1 1 [.string pt,.string tx] rfl rfl ?c1 ?c2 (by omega) ?c3 ?c4 ?c5 _ rfl ?_)
      case c1=>
       intro j x hj
       match j,hj with
       |0,hj=>simp at hj;subst hj;simp[Addr.add]
       |1,hj=>simp at hj;subst hj;simp[Addr.add]
      case c2=>intro x hx;simp at hx;rcases hx with rfl|rfl<;>rfl
      case c3=>unfold maxLen;omega
      case c4=>omega
      case c5=>simp;have:=hB8.size;omega
      intro gg cap wn hown hgrow hat hltn;have hA9:=bA w8 (.cells #[.string pt,.string tx] 129);have hB9:=(Bc hB8 hA9).grown hgrow (by have:=hB8.size;simp;omega) (λr hr=>by have:=Bx ow8 r hr;omega);clear hgrow ow8 hA9;go_wp2;refine⟨⟨q+1,acc++[(pt,tx)],lt,false,by omega,by go_num,rfl,rfl,by simp;omega,hlt2,?_,H,hB9⟩,by simp[intOf];omega⟩;rw[A0z,Gh];exact hown
    ·have hk2:(K==2)=false:=by rw[Ar];exact h2
     have e1:Qj K lt.data.toList=Pm.ahead 47 lt.data.toList:=if_neg h2;have e2:Pd K lt.data.toList=(Pm.behind 47 lt.data.toList).drop 1:=if_neg h2;have e3:Xk K lt.data.toList=!(Pm.behind 47 lt.data.toList).isEmpty:=if_neg h2;by_cases h0:K=0
     ·have hk0:(K != 0)=false:=by rw[h0];rfl
      rw[if_pos h0]at H;clear h0 h2;go_wp2_with fail;refine(HC.out _).mono ?_;rintro e w6 ⟨⟨ra,la,rfl,hra,hla⟩,n6,rfl⟩;rw[e1,e2,e3,<-hra,<-hla]at H;have hral:ra.size<=s.size:=by
       have h:=(Gy 47 lt.data.toList).1;rw[<-hra]at h;simp at h;omega
      have hlal:la.size<=s.size:=by
       have h:=(Gy 47 lt.data.toList).2;rw[<-hla]at h;simp at h;omega
      generalize (!(Pm.behind 47 lt.data.toList).isEmpty)=mr2 at *
      have hd:=below_drewN (Ad (wr.alloc (.cells #[.int .i64 K,.string pt] 307)).heap.size (wr.alloc (.cells #[.int .i64 K,.string pt] 307))) n6;have hD:=Bc hA6 hd;clear HC hra hla e1 e2 e3;go_wp2_with fail;refine(HU.out ra _ hral).mono ?_;rintro e w7 ⟨rfl,hb7⟩;generalize Pm.unT ra.data.toList=tx at *
      have h67:=Bc hD hb7;have kc0:=Aa hb7 (a:=⟨wr.heap.size,0,none⟩) (v:=.int .i64 K) (Aa hd (by simp));have kc1:=Aa hb7 (a:=⟨wr.heap.size,1,none⟩) (v:=.string pt) (Aa hd (by simp));have s7:wr.heap.size<w7.heap.size:=Af (by simp) (Aj hd.size hb7.size);go_wp2_with fail;refine(HT.out tx _).mono ?_;rintro e w8 ⟨rfl,hb8⟩;have h68:=Bc h67 hb8;have hB8:=Bc hbw h68;have ow8:=Be ow h68;have kd0:=Aa hb8 kc0;have kd1:=Aa hb8 kc1;have s8:wr.heap.size<w8.heap.size:=Af s7 hb8.size;clear kc0 kc1 hb7 hb8 h67 h68 hD s7;generalize tk K pt tx=tt at *
      cases tt
      ·have HN:Hid (PO=none):=by unfold Hid;rw[<-H.out];rfl
       clear H;go_wp2
       go_ret2
       rw[HN.out];exact⟨rfl,hB8⟩
      ·rw[if_pos rfl]at H;go_wp2;exact⟨⟨q+1,acc,la,mr2,by omega,by go_num,rfl,rfl,by omega,hlal,ow8,H,hB8⟩,by simp[intOf];omega⟩
     ·have hk0:(K != 0)=true:=by rw[bne_iff_ne];exact h0
      rw[if_neg h0]at H;clear h0 h2;go_wp2_with fail;refine(HC.out _).mono ?_;rintro e w6 ⟨⟨ra,la,rfl,hra,hla⟩,n6,rfl⟩;rw[e1,e2,e3,<-hra,<-hla]at H;have hral:ra.size<=s.size:=by
       have h:=(Gy 47 lt.data.toList).1;rw[<-hra]at h;simp at h;omega
      have hlal:la.size<=s.size:=by
       have h:=(Gy 47 lt.data.toList).2;rw[<-hla]at h;simp at h;omega
      generalize (!(Pm.behind 47 lt.data.toList).isEmpty)=mr2 at *
      have hd:=below_drewN (Ad (wr.alloc (.cells #[.int .i64 K,.string pt] 307)).heap.size (wr.alloc (.cells #[.int .i64 K,.string pt] 307))) n6;have hD:=Bc hA6 hd;clear HC hra hla e1 e2 e3;go_wp2_with fail;refine(HU.out ra _ hral).mono ?_;rintro e w7 ⟨rfl,hb7⟩;generalize Pm.unT ra.data.toList=tx at *
      have h67:=Bc hD hb7;have kc0:=Aa hb7 (a:=⟨wr.heap.size,0,none⟩) (v:=.int .i64 K) (Aa hd (by simp));have kc1:=Aa hb7 (a:=⟨wr.heap.size,1,none⟩) (v:=.string pt) (Aa hd (by simp));have s7:wr.heap.size<w7.heap.size:=Af (by simp) (Aj hd.size hb7.size);go_wp2_with fail;refine(HT.out tx _).mono ?_;rintro e w8 ⟨rfl,hb8⟩;have h68:=Bc h67 hb8;have hB8:=Bc hbw h68;have ow8:=Be ow h68;have kd0:=Aa hb8 kc0;have kd1:=Aa hb8 kc1;have s8:wr.heap.size<w8.heap.size:=Af s7 hb8.size;clear kc0 kc1 hb7 hb8 h67 h68 hD s7;generalize tk K pt tx=tt at *
      cases tt
      ·have HN:Hid (PO=none):=by unfold Hid;rw[<-H.out];rfl
       clear H;go_wp2
       go_ret2
       rw[HN.out];exact⟨rfl,hB8⟩
      ·rw[if_pos rfl]at H;go_wp2_with (at_builtin;refine wpList_append_lies _ rfl _ _ 92 rfl w.heap.size 129 i0 _ 2 32 underlying92 hi hz0 hz1 hz2 rfl (by omega) (.slice va acc.length vc) acc.length (Bg acc) rfl (ow8.alloc _) ⟨w8.heap.size,0,none⟩ 1 1 [.string pt,.string tx] rfl rfl ?c1 ?c2 (by omega) ?c3 ?c4 ?c5 _ rfl ?_)
       case c1=>
        intro j x hj
        match j,hj with
        |0,hj=>simp at hj;subst hj;simp[Addr.add]
        |1,hj=>simp at hj;subst hj;simp[Addr.add]
       case c2=>intro x hx;simp at hx;rcases hx with rfl|rfl<;>rfl
       case c3=>unfold maxLen;omega
       case c4=>omega
       case c5=>simp;have:=hB8.size;omega
       intro gg cap wn hown hgrow hat hltn;have hA9:=bA w8 (.cells #[.string pt,.string tx] 129);have hB9:=(Bc hB8 hA9).grown hgrow (by have:=hB8.size;simp;omega) (λr hr=>by have:=Bx ow8 r hr;omega);clear hgrow ow8 hA9;go_wp2;refine⟨⟨q+1,acc++[(pt,tx)],la,mr2,by omega,by go_num,rfl,rfl,by simp;omega,hlal,?_,H,hB9⟩,by simp[intOf];omega⟩;rw[A0z,Gh];exact hown
  ·have hge:ps.drop q=[]:=Az (by omega);rw[hge,Cj]at H
   cases mr
   ·have HS:Hid (PO=some acc):=by unfold Hid;rw[<-H.out];rfl
    clear H;go_wp2
    go_ret2
    rw[HS.out];exact⟨⟨_,rfl,ow⟩,hbw⟩
   ·have HN:Hid (PO=none):=by unfold Hid;rw[<-H.out];rfl
    clear H;go_wp2
    go_ret2
    rw[HN.out];exact⟨rfl,hbw⟩
end Go.Proofs.YtbiggccolpchcaaGreatDoor
