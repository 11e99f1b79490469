package words

// The names of the fields by which the bytes of requests and answers are read.
const (
	HostName       = "Host"
	LengthName     = "Content-Length"
	CodingName     = "Transfer-Encoding"
	ConnectionName = "Connection"
)

// CloseValue is the value of the field Connection by which nothing more follows.
const CloseValue = "close"

// The methods that have a meaning of their own.
const (
	Get  = "GET"
	Head = "HEAD"
)

// IsLabel tells whether a configuration may lay a field of this name into answers. What says how an
// answer's bytes are read, or whether others follow, is not a configuration's to say.
func IsLabel(s string) bool {
	return IsToken(s) && !Alike(s, LengthName) && !Alike(s, CodingName) && !Alike(s, ConnectionName)
}
