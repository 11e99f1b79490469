/- ReadField tells the field that a line is; own copies a field: each answers what the plain mathematics says; nothing old in memory turns. -/
import Derived.Test.YtbiggccolpchcaaGreatDoorJoin02
set_option maxHeartbeats 1000000
namespace Go.Proofs.YtbiggccolpchcaaGreatDoor
open Go.RowKit _root_.Go.Proofs.Tryz
theorem Xe(l:L8):(Lib.trimS l Pm.a0s).length<=l.length:=by
 unfold Lib.trimS Lib.trimLeftS Lib.trimRightS;have h1:=(List.dropWhile_sublist (λx=>Pm.a0s.contains x) (l:=l.reverse)).length_le;have h2:=(List.dropWhile_sublist (λx=>Pm.a0s.contains x) (l:=(l.reverse.dropWhile (λx=>Pm.a0s.contains x)).reverse)).length_le;rw[List.length_reverse]at h1 h2;omega
theorem Hu{w:World}{o:Obj}{a:Addr}{v:Value}(h:w.cell? a=some v):(w.alloc o).cell? a=some v:=Aa (bA _ _) h
def b0I(o:Option (List UInt8×L8)):Value:=match o with
 |some (n,v)=>.agg #[.string ⟨n.toArray⟩,.string ⟨v.toArray⟩]
 |none=>.agg #[.string ⟨#[]⟩,.string ⟨#[]⟩]
theorem Kr(s:By)(w:World)(hs:s.size<=maxLen):
  Calls prog 296 #[.string s] w λe w'=>e=.returned (.tuple #[b0I (Pm.a1d s.data.toList),.bool (Pm.a1d s.data.toList).isSome])/\Bw w w':=by
 go_enter func296,ntmps296;go_wp2_with fail;refine(Sd s 58 _ hs).mono ?_;rintro e w1 ⟨⟨a,b,rfl,ha,hb⟩,nd,rfl⟩;have has:a.size<=maxLen:=by
  have h3:=congrArg List.length (Pm.a0c 58 s.data.toList);rw[A0z,<-ha]at h3;simp at h3;omega
 have hbs:b.size<=maxLen:=by
  have h3:=congrArg List.length (Pm.a0c 58 s.data.toList);have h4:=Dn hb;rw[A0z]at h3;simp at h3 h4;omega
 have hts:(⟨(Lib.trimS b.data.toList Pm.a0s).toArray⟩:By).size<=maxLen:=by
  have h3:=Xe b.data.toList;have h4:b.data.toList.length=b.size:=by simp
  have h5:(⟨(Lib.trimS b.data.toList Pm.a0s).toArray⟩:By).size=(Lib.trimS b.data.toList Pm.a0s).length:=by simp[ByteArray.size]
  omega
 have HF:Hid (Pm.a1d s.data.toList=if(!(Pm.behind 58 s.data.toList).isEmpty&&Pm.a1w a.data.toList (Lib.trimS b.data.toList Pm.a0s))=true then some (a.data.toList,Lib.trimS b.data.toList Pm.a0s)else none):=by
  unfold Hid Pm.a1d;rw[ha,hb]
 clear ha hb
 cases hf:(Pm.behind 58 s.data.toList).isEmpty
 all_goals
  rw[hf]at HF;clear hf
 ·cases hi:Pm.a1w a.data.toList (Lib.trimS b.data.toList Pm.a0s)
  all_goals
   rw[hi]at HF;go_wp2_with fail;refine(Se _ _ hbs).mono ?_;rintro e w2 ⟨rfl,hb2⟩;have hB2:=Bc (below_drewN ((Ad _ w).alloc (Ac _) _) _) hb2;have q0:=Aa hb2 (a:=⟨w.heap.size,0,none⟩) (v:=.string ⟨#[]⟩) (by simp);have q1:=Aa hb2 (a:=⟨w.heap.size,1,none⟩) (v:=.string ⟨#[]⟩) (by simp);obtain⟨hc2,hf2⟩:=Ni hb2;have hz2:w.heap.size<w2.heap.size:=by have:=hb2.size;simp at this;omega
   clear hb2;go_wp2_with fail;refine(Xd _ _ _ has hts).mono ?_;rintro e w3 ⟨rfl,hb3⟩;rw[show(⟨(Lib.trimS b.data.toList Pm.a0s).toArray⟩:By).data.toList=Lib.trimS b.data.toList Pm.a0s from rfl,hi];clear hi;have hB3:=Bc (hB2.alloc (F6z hz2) _) hb3;have r0:=Aa hb3 (a:=⟨w.heap.size,0,none⟩) (Hu q0);have r1:=Aa hb3 (a:=⟨w.heap.size,1,none⟩) (Hu q1);obtain⟨hc3,hf3⟩:=Ni hb3;have hz3:w2.heap.size<w3.heap.size:=by have:=hb3.size;simp at this;omega
   clear hb3 hB2;go_wp2
  ·refine Ae (v:=.tuple #[.agg #[.string ⟨#[]⟩,.string ⟨#[]⟩],.bool false]) (by simp[results,results296,go_sem,r0,r1]) rfl ⟨by rw[HF.out];rfl,(hB3.setCell (Ac _) _).setCell (Ac _) _⟩
  ·refine Ae (v:=.tuple #[.agg #[.string a,.string ⟨(Lib.trimS b.data.toList Pm.a0s).toArray⟩],.bool true]) (by simp[results,results296,go_sem,r0,r1]) rfl ⟨by rw[HF.out];simp[b0I],(hB3.setCell (Ac _) _).setCell (Ac _) _⟩
 ·go_wp2_with fail;refine(Se _ _ hbs).mono ?_;rintro e w2 ⟨rfl,hb2⟩;have hB2:=Bc (below_drewN ((Ad _ w).alloc (Ac _) _) _) hb2;have q0:=Aa hb2 (a:=⟨w.heap.size,0,none⟩) (v:=.string ⟨#[]⟩) (by simp);have q1:=Aa hb2 (a:=⟨w.heap.size,1,none⟩) (v:=.string ⟨#[]⟩) (by simp);obtain⟨hc2,hf2⟩:=Ni hb2;have hz2:w.heap.size<w2.heap.size:=by have:=hb2.size;simp at this;omega
  clear hb2;go_wp2;refine Ae (v:=.tuple #[.agg #[.string ⟨#[]⟩,.string ⟨#[]⟩],.bool false]) (by simp[results,results296,go_sem,q0,q1,hz2]) rfl ⟨by rw[HF.out];rfl,((hB2.setCell (Ac _) _).setCell (Ac _) _).alloc (by simp;omega) _⟩
theorem a8M(n v:By)(w:World)(hn:n.size<=281474976710656)(hv:v.size<=281474976710656):
  Calls prog 262 #[.agg #[.string n,.string v]] w λe w'=>e=.returned (.agg #[.string n,.string v])/\Bw w w':=by
 go_enter func262,ntmps262;go_wp2
 go_region_with (first|(go_at_call_of 154 (Value.string n);refine(Db _ _ hn).mono ?_;rintro e w1 ⟨rfl,hb1⟩;obtain⟨hc1,hf1⟩:=Ni hb1;have q0:=Aa hb1 (a:=⟨w.heap.size+1,0,none⟩) (v:=.string ⟨#[]⟩) (by simp);have q1:=Aa hb1 (a:=⟨w.heap.size+1,1,none⟩) (v:=.string ⟨#[]⟩) (by simp);have hz1:w.heap.size+1<w1.heap.size:=by(have:=hb1.size;(try simp at this);omega))|(go_at_call_of 154 (Value.string v);refine(Db _ _ hv).mono ?_;rintro e w2 ⟨rfl,hb2⟩;obtain⟨hc2,hf2⟩:=Ni hb2;have r0:=Aa hb2 q0;have r1:=Aa hb2 q1;have hz2:w.heap.size+1<w2.heap.size:=by(have:=hb2.size;(try simp at this);omega)))
 all_goals
  go_wp2;refine Ae (v:=.agg #[.string n,.string v]) (by simp[results,results262,go_sem,r0,r1]) rfl ⟨rfl,?_⟩;exact((Bc (Bc (((Ad _ w).alloc (Ac _) _).alloc (by simp) _).drew hb1) hb2).setCell (by simp) _).setCell (by simp) _
end Go.Proofs.YtbiggccolpchcaaGreatDoor
