package wire

// Reason tells a status in words.
func Reason(status int) string {
	switch status {
	case 200:
		return "OK"
	case 301:
		return "Moved Permanently"
	case 308:
		return "Permanent Redirect"
	case 400:
		return "Bad Request"
	case 403:
		return "Forbidden"
	case 404:
		return "Not Found"
	case 405:
		return "Method Not Allowed"
	case 413:
		return "Content Too Large"
	case 431:
		return "Request Header Fields Too Large"
	case 500:
		return "Internal Server Error"
	case 501:
		return "Not Implemented"
	case 505:
		return "HTTP Version Not Supported"
	}
	return "Status"
}
