package rules

import (
	"telemeter/agent"
	"telemeter/api"
	"telemeter/conf"
	"telemeter/ctx"
	"telemeter/dedup"
	"telemeter/disk"
	"telemeter/frame"
	"telemeter/gather"
	"telemeter/hash"
	"telemeter/heap"
	"telemeter/item"
	"telemeter/lab"
	"telemeter/num"
	"telemeter/policy"
	"telemeter/prio"
	"telemeter/prob"
	"telemeter/rate"
	"telemeter/send"
	"telemeter/sketch"
	"telemeter/spool"
	"telemeter/tail"
	"telemeter/window"
	"telemeter/world"
)

// The calls that the chapters list, with their exact signatures: this does not compile with another one.
var (
	// num
	_ func(uint64) []byte                             = num.Put
	_ func([]byte, int) (uint64, int, api.Errno)      = num.Get
	_ func(int) uint64                                = num.Zig
	_ func(uint64) int                                = num.Zag
	_ func(string) []byte                             = num.PutText
	_ func([]byte, int, int) (string, int, api.Errno) = num.GetText
	// frame
	_ func([]byte) uint32                        = frame.Sum
	_ func([]byte) ([]byte, api.Errno)           = frame.Frame
	_ func([]byte, int) ([]byte, int, api.Errno) = frame.Take
	_ func([]byte) ([][]byte, int, api.Errno)    = frame.Scan
	// item
	_ func(api.Span) bool                = item.RightSpan
	_ func(api.Log) bool                 = item.RightLog
	_ func(api.Item) ([]byte, api.Errno) = item.Encode
	_ func([]byte) (api.Item, api.Errno) = item.Decode
	// ctx
	_ func(string) (api.Parent, api.Errno)        = ctx.Parse
	_ func(api.Parent) (string, api.Errno)        = ctx.Print
	_ func(string) (api.Marks, api.Errno)         = ctx.Read
	_ func(string, api.Marks) (string, api.Errno) = ctx.With
	// prob
	_ func(uint64, uint64) bool                = prob.Keep
	_ func(api.Span) uint64                    = prob.Number
	_ func(uint64, uint64) (uint64, api.Errno) = prob.Threshold
	_ func(uint64) (uint64, uint64, api.Errno) = prob.Weight
	_ func(uint64) uint64                      = prob.Kept
	_ func(uint64) (string, api.Errno)         = prob.Digits
	_ func(string) (uint64, api.Errno)         = prob.Parse
	// hash
	_ func(uint64) uint64           = hash.Mix
	_ func(uint64) uint64           = hash.Back
	_ func(uint64, string) uint64   = hash.Of
	_ func(uint64, string, int) int = hash.In
	// sketch
	_ func(int, int, uint64) *sketch.Sketch = sketch.New
	_ func(*sketch.Sketch, string, uint64)  = (*sketch.Sketch).Add
	_ func(*sketch.Sketch, string) uint64   = (*sketch.Sketch).Count
	_ func(*sketch.Sketch) uint64           = (*sketch.Sketch).Total
	_ func(*sketch.Sketch) *sketch.Sketch   = (*sketch.Sketch).Copy
	// window
	_ func(int, int, uint64, int) *window.Window            = window.New
	_ func(*window.Window, int, string, uint64) api.Errno   = (*window.Window).Add
	_ func(*window.Window, int, string) (uint64, api.Errno) = (*window.Window).Closed
	_ func(*window.Window, int, string) (uint64, api.Errno) = (*window.Window).Open
	// rate
	_ func(uint64, uint64) uint64                       = rate.By
	_ func(uint64, uint64, uint64) uint64               = rate.Clamp
	_ func(uint64, uint64, uint64) (uint64, api.Errno)  = rate.Toward
	_ func(int, int, uint64, int, uint64) *rate.Rate    = rate.New
	_ func(*rate.Rate, int, string) (uint64, api.Errno) = (*rate.Rate).Ask
	// heap
	_ func(int) *heap.Heap                  = heap.New
	_ func(*heap.Heap, api.Timer) api.Errno = (*heap.Heap).Push
	_ func(*heap.Heap) (api.Timer, bool)    = (*heap.Heap).Pop
	_ func(*heap.Heap) (api.Timer, bool)    = (*heap.Heap).First
	_ func(*heap.Heap, int) bool            = (*heap.Heap).Drop
	_ func(*heap.Heap) int                  = (*heap.Heap).Len
	_ func(*heap.Heap, int) []api.Timer     = (*heap.Heap).Due
	// prio
	_ func(int, uint64) *prio.Sampler                      = prio.New
	_ func(*prio.Sampler, uint64, uint64) (int, api.Errno) = (*prio.Sampler).Add
	_ func(*prio.Sampler) []api.Kept                       = (*prio.Sampler).Close
	_ func(*prio.Sampler) int                              = (*prio.Sampler).Len
	_ func(uint64, uint64, uint64, uint64) bool            = prio.Above
	// policy
	_ func([][]api.Rule) bool                    = policy.Right
	_ func(api.Rule, []api.Span, uint64) bool    = policy.Holds
	_ func([]api.Rule, []api.Span, uint64) bool  = policy.All
	_ func([][]api.Rule, []api.Span, uint64) int = policy.Which
	_ func([]api.Span) int                       = policy.Length
	// tail
	_ func(int, int, int) *tail.Buffer                     = tail.New
	_ func(*tail.Buffer, int, api.Span) (uint8, api.Errno) = (*tail.Buffer).Offer
	_ func(*tail.Buffer, int) ([]api.Group, api.Errno)     = (*tail.Buffer).Due
	_ func(*tail.Buffer, uint64, uint64, bool)             = (*tail.Buffer).Decide
	_ func(*tail.Buffer, uint64, uint64) (bool, bool)      = (*tail.Buffer).Known
	_ func(*tail.Buffer) int                               = (*tail.Buffer).Len
	_ func(*tail.Buffer) (int, bool)                       = (*tail.Buffer).Next
	// disk
	_ func() *disk.Disk                         = disk.New
	_ func(*disk.Disk, int, []byte) api.Errno   = (*disk.Disk).Write
	_ func(*disk.Disk, int) api.Errno           = (*disk.Disk).Sync
	_ func(*disk.Disk, int) api.Errno           = (*disk.Disk).Remove
	_ func(*disk.Disk) []int                    = (*disk.Disk).Files
	_ func(*disk.Disk, int) ([]byte, api.Errno) = (*disk.Disk).Read
	_ func(*disk.Disk, int) int                 = (*disk.Disk).Sure
	_ func(*disk.Disk, uint64)                  = (*disk.Disk).Crash
	_ func(*disk.Disk) *disk.Disk               = (*disk.Disk).Copy
	// spool
	_ func(*disk.Disk, int, int) *spool.Spool     = spool.Open
	_ func(*spool.Spool, []byte) (int, api.Errno) = (*spool.Spool).Append
	_ func(*spool.Spool)                          = (*spool.Spool).Sync
	_ func(*spool.Spool, int) api.Errno           = (*spool.Spool).Ack
	_ func(*spool.Spool, int) bool                = (*spool.Spool).Has
	_ func(*spool.Spool) []api.Batch              = (*spool.Spool).Ready
	_ func(*spool.Spool) int                      = (*spool.Spool).Len
	_ func(*spool.Spool) int                      = (*spool.Spool).Next
	_ func(*spool.Spool) []int                    = (*spool.Spool).Segments
	// gather
	_ func(int, int) *gather.Gather                 = gather.New
	_ func(*gather.Gather, int, []byte) api.Errno   = (*gather.Gather).Add
	_ func(*gather.Gather, int) ([]byte, int, bool) = (*gather.Gather).Take
	_ func(*gather.Gather) int                      = (*gather.Gather).Len
	_ func([]byte) ([][]byte, api.Errno)            = gather.Split
	// send
	_ func(int, int, int) *send.Sender      = send.New
	_ func(*send.Sender, int) bool          = (*send.Sender).Put
	_ func(*send.Sender, int, uint64) []int = (*send.Sender).Due
	_ func(*send.Sender, int) bool          = (*send.Sender).Done
	_ func(*send.Sender) int                = (*send.Sender).Flying
	_ func(*send.Sender) int                = (*send.Sender).Len
	_ func(*send.Sender) (int, bool)        = (*send.Sender).Next
	_ func(int, int, int, uint64) int       = send.Delay
	// dedup
	_ func(int) *dedup.Seen        = dedup.New
	_ func(*dedup.Seen, int) uint8 = (*dedup.Seen).Take
	_ func(*dedup.Seen) int        = (*dedup.Seen).Low
	_ func(*dedup.Seen) []int      = (*dedup.Seen).Ahead
	// conf
	_ func(api.Conf) bool                     = conf.Right
	_ func(api.Conf) (string, api.Errno)      = conf.Print
	_ func(string) (api.Conf, api.Errno, int) = conf.Parse
	// agent
	_ func(api.Conf, *disk.Disk) *agent.Agent                    = agent.New
	_ func(*agent.Agent, int, []byte, uint64) (uint8, api.Errno) = (*agent.Agent).Ingest
	_ func(*agent.Agent, int, uint64) ([]api.Batch, api.Errno)   = (*agent.Agent).Step
	_ func(*agent.Agent, int) api.Errno                          = (*agent.Agent).Ack
	_ func(*agent.Agent, uint64) *agent.Agent                    = (*agent.Agent).Crash
	_ func(*agent.Agent) api.Ledger                              = (*agent.Agent).Ledger
	_ func([]byte, uint64, uint64) []byte                        = agent.Record
	_ func([]byte) (api.Item, uint64, uint64, api.Errno)         = agent.Item
	// world
	_ func(api.Conf, int, int) *world.World         = world.New
	_ func(*world.World, api.Op) (uint8, api.Errno) = (*world.World).Do
	_ func(*world.World) int                        = (*world.World).Now
	_ func(*world.World) []api.Message              = (*world.World).Net
	_ func(*world.World, int) [][]byte              = (*world.World).Stored
	_ func(*world.World, int) api.Ledger            = (*world.World).Ledger
	// lab
	_ func(string, int, int, string) string = lab.Play
	_ func(string) string                   = lab.Show
	_ func(string) string                   = lab.Make
)
